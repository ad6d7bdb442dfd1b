import PyProof.Rows.All
import Wide.All
import OpenK.AllK
import Wide.FinOn
import HandS.ForMost
import HandS.Evl
import HandS.WideBits
import HandS.IsInst
import HandS.Defaults
import HandS.StrMore
import HandS.Conv
import HandS.Walk
import HandS.FStr
import HandS.Style
import HandS.Replace
import HandS.Strs
import PyProof.FString3
import PyProof.SliceStr2
import KE.GoesEnumKw
import KE.GoesZip
import KE.LtData
import KE.GoesMore
import PyProof.EnumMake
import PyProof.Rows.StrIntSpec
import HandS.Codes
import PyProof.Rows.StrRev
import PyProof.StrLawsIn
import PyProof.StrBlock2
import HandS.DictTup
import HandS.TupLen
import PyProof.StrLawsFrom
import PyProof.Draws
import PyProof.DictMoreH
import HandS.Gcd
import Flt.RightSqrt
import HandS.Exc
import HandS.ExcOwn
import HandS.ExcInit
import HandS.ExcField
import HandS.ExcIs
import HandS.HotCalls
import HandS.TryMany
import HandS.WordsExc
import HandS.Lambda
import KE.KExcIs
import HandS.ExcValue
import HandS.OwnEq
import HandS.MakeKwOnly
import PyProof.MaxThree
import PyProof.ReprRoads
import PyProof.ReprLen
import PySem.Challenge.RW_outpressed_k24_round_least_form
set_option Elab.async false
set_option linter.all false
set_option maxRecDepth 100000
set_option maxHeartbeats 8000000
namespace Ver
open PySem PySem.Spec PyProof.Rows L2 Evl
/-! ### for over a list or a tuple -/
def iSeq (K : PySem.W.Frag) (te : TE) : TI := fun σ H R => te σ H fun x H1 => ∃ a : Addr, x = .ref a ∧ ((∃ xs, SqL K H1 a xs ∧ R (Itl K a) H1) ∨ (∃ xs, SqT K H1 a xs ∧ R (Itt K a) H1))
section
variable {X : Cx}
theorem pi_seq {tg e : Expr} {te : TE} (he : PE X e te) : PI X tg e (iSeq X.K te) := by
  refine ⟨fun pins s σ H R I h => ?_⟩
  refine thn (he.run pins s σ H _ I h) ?_
  intro v s1 got
  obtain ⟨x, H1, I1, r1, a, rfl, q⟩ := got
  cases (show v = Value.ref a from r1)
  have hd : PE X e te := he
  rcases q with ⟨xs, hs, q⟩ | ⟨xs, hs, q⟩
  · obtain ⟨its, _, p, _⟩ := I1.list hs
    refine wpAny_pyIter_list p.isList ?_
    exact pi_one (tk := s1.toks) I1 _ (turn_list a _) ⟨_, Heap.get?_push_size _ rfl, rfl, rfl⟩ q
  · obtain ⟨its, _, p, _⟩ := I1.tuple hs
    refine wpAny_pyIter_tuple (show s1.heap.IsTuple a its.toArray from p) ?_
    exact pi_one (tk := s1.toks) I1 _ (turn_tuple a _) ⟨_, Heap.get?_push_size _ rfl, rfl, rfl⟩ q
/-! ### a < b of data that are alike -/
def rLtD (K : PySem.W.Frag) : R2 := fun x y H Q => ∃ d e, Dp K H x d ∧ Dp K H y e ∧ PySem.W.alike d e = true ∧ d ≠ .none ∧ d.depth ≤ 32 ∧ Q (.bl (PySem.W.dataLt d e)) H
theorem op_ltD (hu : X.A.units + 64 < cLine) : OpR X (compareOp .Lt) (rLtD X.K) := by
  intro pins s σ H x y v u Q I rx ry h
  obtain ⟨d, e, hd, he, al, nn, dep, q⟩ := h
  obtain ⟨as, r1⟩ := Dp.reads I d x v hd rx
  obtain ⟨bs, r2⟩ := Dp.reads I e y u he ry
  have room : X.A.units + min d.depth e.depth < cLine := by
    have := Nat.min_le_left d.depth e.depth
    omega
  have k := PySem.W.rcLt_alike d e X.A s v u as bs r1 r2 al nn room
  exact k X.prog X.w X.xe _ ⟨.bl _, H, I, rfl, q⟩
/-! ### text[::-1]: some text of its signs, no longer -/
def tRevS (te : TE) : TE := fun σ H Q => te σ H fun x H1 => ∃ z : Str, x = .str z ∧ z.length ≤ sizeLine ∧ ∀ y : Str, (∀ c ∈ y.cps.toList, c ∈ z.cps.toList) → y.length ≤ z.length → Q (.str y) H1
end
end Ver
namespace Ver
def at0 (ps : List Int) (i : Nat) : Int := ps.getD i 0
/-! ### strings of bits as lists of codes -/
def bit1 (c : Nat) : Int := if c = 49 then 1 else 0
def val (l : List Nat) : Int := l.foldl (fun v c => v * 2 + bit1 c) 0
def Digs (l : List Nat) : Prop := ∀ c, c ∈ l → c = 48 ∨ c = 49
def p2 : Nat → Int
  | 0 => 1
  | n + 1 => p2 n * 2
theorem p2_pos : ∀ n, 0 < p2 n
  | 0 => by decide
  | n + 1 => by
    have h := p2_pos n
    show 0 < p2 n * 2
    omega
theorem p2_cast : ∀ n, p2 n = ((2 ^ n : Nat) : Int)
  | 0 => rfl
  | n + 1 => by
    show p2 n * 2 = _
    rw [p2_cast n, Nat.pow_succ, Int.natCast_mul]
    rfl
def valR : List Nat → Int
  | [] => 0
  | c :: r => bit1 c * p2 r.length + valR r
theorem fold_val : ∀ (l : List Nat) (a : Int), l.foldl (fun v c => v * 2 + bit1 c) a = a * p2 l.length + valR l
  | [], a => by
    show a = a * 1 + 0
    omega
  | c :: r, a => by
    show r.foldl (fun v c => v * 2 + bit1 c) (a * 2 + bit1 c) = a * (p2 r.length * 2) + (bit1 c * p2 r.length + valR r)
    rw [fold_val r, Int.add_mul]
    have e : a * 2 * p2 r.length = a * (p2 r.length * 2) := by rw [Int.mul_assoc, Int.mul_comm 2]
    rw [e]
    omega
theorem val_R (l : List Nat) : val l = valR l := by
  unfold val
  rw [fold_val l 0]
  omega
theorem valR_bound : ∀ l : List Nat, 0 ≤ valR l ∧ valR l < p2 l.length
  | [] => ⟨Int.le_refl 0, by decide⟩
  | c :: r => by
    obtain ⟨h1, h2⟩ := valR_bound r
    show 0 ≤ bit1 c * p2 r.length + valR r ∧ bit1 c * p2 r.length + valR r < p2 r.length * 2
    unfold bit1
    split
    · omega
    · omega
theorem lex_of_val : ∀ (a b : List Nat), a.length = b.length → Digs a → Digs b → valR a < valR b → a < b
  | [], [], _, _, _, h => absurd h (Int.lt_irrefl 0)
  | [], _ :: _, h, _, _, _ => nomatch h
  | _ :: _, [], h, _, _, _ => nomatch h
  | x :: r, y :: t, hl, ha, hb, hv => by
    have hl2 : r.length = t.length := Nat.succ.inj hl
    have b1 := valR_bound r
    have b2 := valR_bound t
    have hx := ha x (List.mem_cons_self ..)
    have hy := hb y (List.mem_cons_self ..)
    have hv2 : bit1 x * p2 r.length + valR r < bit1 y * p2 t.length + valR t := hv
    rw [← hl2] at hv2 b2
    rw [List.cons_lt_cons_iff]
    rcases hx with rfl | rfl
    · rcases hy with rfl | rfl
      · refine .inr ⟨rfl, lex_of_val r t hl2 (fun c h => ha c (List.mem_cons_of_mem _ h)) (fun c h => hb c (List.mem_cons_of_mem _ h)) ?_⟩
        simp only [bit1] at hv2
        omega
      · exact .inl (by decide)
    · rcases hy with rfl | rfl
      · simp only [bit1] at hv2
        simp at hv2
        omega
      · refine .inr ⟨rfl, lex_of_val r t hl2 (fun c h => ha c (List.mem_cons_of_mem _ h)) (fun c h => hb c (List.mem_cons_of_mem _ h)) ?_⟩
        simp only [bit1] at hv2
        omega
theorem valR_append : ∀ (a b : List Nat), valR (a ++ b) = valR a * p2 b.length + valR b
  | [], b => by
    show valR b = 0 * p2 b.length + valR b
    omega
  | c :: r, b => by
    have ih := valR_append r b
    show bit1 c * p2 (r ++ b).length + valR (r ++ b) = (bit1 c * p2 r.length + valR r) * p2 b.length + valR b
    have e : p2 (r ++ b).length = p2 r.length * p2 b.length := by
      rw [p2_cast, p2_cast, p2_cast, List.length_append, Nat.pow_add, Int.natCast_mul]
    rw [ih, e, Int.add_mul, Int.mul_assoc]
    omega
theorem valR_zeros : ∀ n : Nat, valR (List.replicate n 48) = 0
  | 0 => rfl
  | n + 1 => by
    show bit1 48 * p2 (List.replicate n 48).length + valR (List.replicate n 48) = 0
    rw [valR_zeros n]
    show (0 : Int) * _ + 0 = 0
    omega
def bins (n : Nat) : List Nat := (Nat.toDigits 2 n).map Char.toNat
theorem bins_ok (n : Nat) : Digs (bins n) ∧ valR (bins n) = (n : Int) := by
  induction n using Nat.strongRecOn with
  | ind n ih =>
    unfold bins
    rw [Nat.toDigits_eq_if (by decide)]
    by_cases h : n < 2
    · rw [if_pos h]
      have : n = 0 ∨ n = 1 := by omega
      rcases this with rfl | rfl
      · exact ⟨fun c hc => .inl (List.mem_singleton.mp (show c ∈ [48] from hc)), rfl⟩
      · exact ⟨fun c hc => .inr (List.mem_singleton.mp (show c ∈ [49] from hc)), rfl⟩
    · rw [if_neg h, List.map_append]
      obtain ⟨h1, h2⟩ := ih (n / 2) (by omega)
      have hm : n % 2 = 0 ∨ n % 2 = 1 := by omega
      refine ⟨fun c hc => ?_, ?_⟩
      · rcases List.mem_append.mp hc with hc | hc
        · exact h1 c hc
        · rcases hm with e | e
          · rw [e] at hc
            exact .inl (List.mem_singleton.mp (show c ∈ [48] from hc))
          · rw [e] at hc
            exact .inr (List.mem_singleton.mp (show c ∈ [49] from hc))
      · have e1 : valR (List.map Char.toNat (Nat.toDigits 2 (n / 2))) = ((n / 2 : Nat) : Int) := h2
        rw [valR_append, e1]
        rcases hm with e | e
        · rw [e]
          show ((n / 2 : Nat) : Int) * 2 + 0 = (n : Int)
          omega
        · rw [e]
          show ((n / 2 : Nat) : Int) * 2 + 1 = (n : Int)
          omega
theorem bins_len {n k : Nat} (hk : 0 < k) (h : n < 2 ^ k) : (bins n).length ≤ k := by
  unfold bins
  rw [List.length_map]
  exact (Nat.length_toDigits_le_iff (by decide) hk).mpr h
theorem bins_pos (n : Nat) : 0 < (bins n).length := by
  unfold bins
  rw [List.length_map]
  exact Nat.length_toDigits_pos
/-- n as exactly w bits -/
def nbL (n w : Nat) : List Nat := if w = 0 then [] else List.replicate (w - (bins n).length) 48 ++ bins n
structure Nb (l : List Nat) (n : Int) (w : Nat) : Prop where
  len : l.length = w
  digs : Digs l
  v : valR l = n
theorem nb_ok {n w : Nat} (h : n < 2 ^ w) : Nb (nbL n w) (n : Int) w := by
  unfold nbL
  by_cases c : w = 0
  · subst c
    have : n = 0 := by
      rw [Nat.pow_zero] at h
      omega
    subst this
    exact ⟨rfl, fun c hc => (nomatch hc), rfl⟩
  · rw [if_neg c]
    have hl := bins_len (by omega) h
    obtain ⟨h1, h2⟩ := bins_ok n
    refine ⟨?_, fun d hd => ?_, ?_⟩
    · rw [List.length_append, List.length_replicate]
      omega
    · rcases List.mem_append.mp hd with hd | hd
      · exact .inl (List.eq_of_mem_replicate hd)
      · exact h1 d hd
    · rw [valR_append, valR_zeros, h2]
      omega
end Ver
namespace Ver
open PySem PySem.Spec PyProof.Rows L2 Evl
/-! called with keywords alone -/
section
variable {X : Cx} {CX : CXT} {k : Nat} {f : Addr} {fd : FuncData} {ps ks : List Str} {sp : Sp} {E : XK} {x : Str} {p pos : Pos} {kws : List Keyword} {tk : TA} {g : List Value → List Value → List Value} {gV : List V → List V → List V}
theorem pe_callN0 (F : FnOk X.prog X.w X.K X.mg X.base CX k f fd ps sp) (room : Room k X.A) (gl : Gl X x) (at_ : X.mg x = some (.ref f)) (keep : PySem.W.keepIn X.K (.ref f) = true)
    (bd : KBn X.K fd ps 0 ks g gV) (pass : Passes CX X E) (kw : PK X kws tk)
    (named : (backToKw pos (keywordEach kws X.env)).all (·.1.isSome) = true := by rfl)
    (names : (backToKw pos (keywordEach kws X.env)).filterMap (·.1) = ks := by rfl)
    (nodebug : (x == ("__debug__" : Str)) = false := by decide)
    (plain : ((backTo pos (starEach [] X.env)).any (·.1) || (backToKw pos (keywordEach kws X.env)).any (·.1.isNone)) = false := by rfl) :
    PE X (.Call (.Name x p) [] kws pos) (tCallN 0 ks.length sp gV E tNil tk) := by
  refine ⟨fun pins s σ H Q I h => ?_⟩
  refine wpAny_Call_Name_kw (ld_glob I gl at_ ?_ nodebug)
  refine PySem.W.callWith_KW0 (h₀ := X.base) I.ok.mod.kin keep named ?_ plain
  refine thn (kw.run pos pins s σ H _ I h) ?_
  intro ws s2 got
  obtain ⟨zs, H2, I2, rz, l1, l2, q2⟩ := got
  refine ⟨I2.kIn, ?_⟩
  rw [names]
  exact run_fnN (us := []) (vs := []) F room bd pass I2 .nil rz rfl l2 q2
end
theorem E_of {H : Hp} {p : Addr} {o : HO} (h : H p = none) : Ex H (upd H p o) := Ex.new h
/-! ### calls of built-ins on values -/
section
variable {K : PySem.W.Frag} {H : Hp}
theorem rc_min {i j : Int} : RC (fun xs H Q => ∃ i j, xs = [V.int i, V.int j] ∧ Q (V.int (if j < i then j else i)) H) [.int i, .int j] H (.int (min i j)) := fun H1 _ Q q =>
  ⟨i, j, rfl, by
    have e : (if j < i then j else i) = min i j := by
      split <;> omega
    rw [e]
    exact q H1 (Ex.refl H1)⟩
theorem rc_max {i j : Int} : RC (fun xs H Q => ∃ i j, xs = [V.int i, V.int j] ∧ Q (V.int (if j > i then j else i)) H) [.int i, .int j] H (.int (max i j)) := fun H1 _ Q q =>
  ⟨i, j, rfl, by
    have e : (if j > i then j else i) = max i j := by
      split <;> omega
    rw [e]
    exact q H1 (Ex.refl H1)⟩
theorem rc_int {i : Int} : RC (fun xs H Q => (∃ i, xs = [V.int i] ∧ Q (V.int i) H) ∨ ∃ k, xs = [V.bl k] ∧ Q (V.int (if k = true then 1 else 0)) H) [.int i] H (.int i) := fun H1 _ _ q =>
  .inl ⟨i, rfl, q H1 (Ex.refl H1)⟩
theorem rc_intB {b : Bool} : RC (fun xs H Q => (∃ i, xs = [V.int i] ∧ Q (V.int i) H) ∨ ∃ k, xs = [V.bl k] ∧ Q (V.int (if k = true then 1 else 0)) H) [.bl b] H (.int (if b = true then 1 else 0)) := fun H1 _ _ q =>
  .inr ⟨b, rfl, q H1 (Ex.refl H1)⟩
theorem rc_lenL {p : Addr} {xs : List V} (h : SqL K H p xs) : RC (fun vs H Q => ∃ p ys, vs = [V.ref p] ∧ (SqL K H p ys ∨ SqT K H p ys) ∧ Q (V.int ys.length) H) [.ref p] H (.int xs.length) := fun H1 e _ q =>
  ⟨p, xs, rfl, .inl (ex_l e h), q H1 (Ex.refl H1)⟩
theorem rc_sum {p : Addr} {ns : List Int} (h : SqL K H p (ns.map V.int)) : RC (fun vs H Q => ∃ (a : Addr) (ns : List Int), vs = [V.ref a] ∧ SqL K H a (ns.map V.int) ∧ Q (V.int ns.sum) H) [.ref p] H (.int ns.sum) := fun H1 e _ q =>
  ⟨p, ns, rfl, ex_l e h, q H1 (Ex.refl H1)⟩
end
/-- the int at a place -/
theorem at_int {ns : List Int} {i : Nat} (h : i < ns.length) : atI (ns.map V.int) (i : Int) = some (.int (at0 ns i)) := by
  refine atI_nat ?_
  rw [List.getElem?_map, List.getElem?_eq_getElem h]
  unfold at0
  rw [List.getD_eq_getElem?_getD, List.getElem?_eq_getElem h]
  rfl
def bitsOf (n : Int) : Int := ((Builtin.Int.intBits (n - 1) : Nat) : Int)
/-! ### readings in short -/
section
variable {σ : L2.St} {H : Hp} {t : TT} {tu tz : TS} {D : Ends} {K : PySem.W.Frag} {ta tb : TE}
/-- an if that is not taken -/
theorem q_skip (h : EvT t σ H false) (k : ∀ H1, Ex H H1 → tz D σ H1) : tSeq (tIfS t tu tNext) tz D σ H := q_when h (fun hb => absurd hb Bool.false_ne_true) (fun _ => k)
theorem s_skip (h : EvT t σ H false) (k : ∀ H1, Ex H H1 → D.nx σ H1) : tIfS t tu tNext D σ H := s_when h (fun hb => absurd hb Bool.false_ne_true) (fun _ => k)
/-- an if that is taken -/
theorem q_take (h : EvT t σ H true) (k : ∀ H1, Ex H H1 → tu { D with nx := tz D } σ H1) : tSeq (tIfS t tu tNext) tz D σ H := q_when h (fun _ => k) (fun hb => nomatch hb)
theorem et_lt {i j : Int} (ha : Ev ta σ H (.int i)) (hb : Ev tb σ H (.int j)) : EvT (tTest (tOp (rI0 fun i j => .bl (decide (i < j))) ta tb)) σ H (decide (i < j)) := et_test (ev_op ha hb rv_I0)
theorem et_le {i j : Int} (ha : Ev ta σ H (.int i)) (hb : Ev tb σ H (.int j)) : EvT (tTest (tOp (rI0 fun i j => .bl (decide (i ≤ j))) ta tb)) σ H (decide (i ≤ j)) := et_test (ev_op ha hb rv_I0)
theorem et_gt {i j : Int} (ha : Ev ta σ H (.int i)) (hb : Ev tb σ H (.int j)) : EvT (tTest (tOp (rI0 fun i j => .bl (decide (j < i))) ta tb)) σ H (decide (j < i)) := et_test (ev_op ha hb rv_I0)
theorem et_ge {i j : Int} (ha : Ev ta σ H (.int i)) (hb : Ev tb σ H (.int j)) : EvT (tTest (tOp (rI0 fun i j => .bl (decide (j ≤ i))) ta tb)) σ H (decide (j ≤ i)) := et_test (ev_op ha hb rv_I0)
theorem et_neI {i j : Int} (ha : Ev ta σ H (.int i)) (hb : Ev tb σ H (.int j)) : EvT (tTest (tOp rNe ta tb)) σ H (!decide (i = j)) := et_test (ev_is (ev_op ha hb (rv_ne rfl)) (by simp))
theorem et_eqI {i j : Int} (ha : Ev ta σ H (.int i)) (hb : Ev tb σ H (.int j)) : EvT (tTest (tOp rEq ta tb)) σ H (decide (i = j)) := et_test (ev_is (ev_op ha hb (rv_eq rfl)) (by simp))
/-- x + y, x - y, x * y, x // y, x % y -/
theorem ev_add {i j : Int} (ha : Ev ta σ H (.int i)) (hb : Ev tb σ H (.int j)) : Ev (tOp (rI0 fun i j => .int (i + j)) ta tb) σ H (.int (i + j)) := ev_op ha hb rv_I0
theorem ev_sub {i j : Int} (ha : Ev ta σ H (.int i)) (hb : Ev tb σ H (.int j)) : Ev (tOp (rI0 fun i j => .int (i - j)) ta tb) σ H (.int (i - j)) := ev_op ha hb rv_I0
theorem ev_mulR {i j : Int} (h1 : -18446744073709551616 < j) (h2 : j < 18446744073709551616) (ha : Ev ta σ H (.int i)) (hb : Ev tb σ H (.int j)) : Ev (tOp (rI CMul fun i j => .int (i * j)) ta tb) σ H (.int (i * j)) := ev_op ha hb (rv_I (Or.inr ⟨by omega, by omega⟩))
theorem ev_mulL {i j : Int} (h1 : -18446744073709551616 < i) (h2 : i < 18446744073709551616) (ha : Ev ta σ H (.int i)) (hb : Ev tb σ H (.int j)) : Ev (tOp (rI CMul fun i j => .int (i * j)) ta tb) σ H (.int (i * j)) := ev_op ha hb (rv_I (Or.inl ⟨by omega, by omega⟩))
theorem ev_mod {i j : Int} (h : 0 < j) (ha : Ev ta σ H (.int i)) (hb : Ev tb σ H (.int j)) : Ev (tOp (rI (fun _ j => 0 < j) fun i j => .int (i % j)) ta tb) σ H (.int (i % j)) := ev_op ha hb (rv_I h)
theorem div_ok {i j : Int} (h : 0 < j) (h2 : j < 18446744073709551616) : CDivW i j := wide_div (b := 64) h (by omega) (by decide) (by decide)
theorem ev_div {i j : Int} (h : 0 < j) (h2 : j < 18446744073709551616) (ha : Ev ta σ H (.int i)) (hb : Ev tb σ H (.int j)) : Ev (tOp (rI CDivW fun i j => .int (i / j)) ta tb) σ H (.int (i / j)) := ev_op ha hb (rv_I (div_ok h h2))
theorem ev_int {i : Int} (ha : Ev ta σ H (.int i)) : Ev (tCB (fun xs H Q => (∃ i, xs = [V.int i] ∧ Q (V.int i) H) ∨ ∃ k, xs = [V.bl k] ∧ Q (V.int (if k = true then 1 else 0)) H) (tCons ta tNil)) σ H (.int i) := ev_cb (ea_cons ha ea_nil) rc_int
theorem ev_intB {b : Bool} (ha : Ev ta σ H (.bl b)) : Ev (tCB (fun xs H Q => (∃ i, xs = [V.int i] ∧ Q (V.int i) H) ∨ ∃ k, xs = [V.bl k] ∧ Q (V.int (if k = true then 1 else 0)) H) (tCons ta tNil)) σ H (.int (if b = true then 1 else 0)) := ev_cb (ea_cons ha ea_nil) rc_intB
/-- xs[i] of ints -/
theorem ev_at {a : Addr} {ns : List Int} {i : Nat} (hs : SqL K H a (ns.map V.int)) (hi : i < ns.length) (ha : Ev ta σ H (.ref a)) (hb : Ev tb σ H (.int (i : Int))) : Ev (tOp (rIxL K) ta tb) σ H (.int (at0 ns i)) := ev_op ha hb (rv_ixL hs (at_int hi))
end
theorem at0_get {ns : List Int} {i : Nat} {x : V} (h : (ns.map V.int)[i]? = some x) : i < ns.length ∧ x = .int (at0 ns i) := by
  rw [List.getElem?_map] at h
  cases e : ns[i]? with
  | none =>
    rw [e] at h
    cases h
  | some y =>
    rw [e] at h
    have hi : i < ns.length := (List.getElem?_eq_some_iff.mp e).1
    refine ⟨hi, ?_⟩
    unfold at0
    rw [List.getD_eq_getElem?_getD, e]
    exact (Option.some.inj h).symm
theorem at0_mem {ns : List Int} {i : Nat} (h : i < ns.length) : at0 ns i ∈ ns := by
  unfold at0
  rw [List.getD_eq_getElem?_getD, List.getElem?_eq_getElem h]
  exact List.getElem_mem h
section
variable {K : PySem.W.Frag}
theorem rc_isi {n : Int} {c : String} {b : Bool} {H : Hp} (h : kitB "int" c = some b) : RC (rIsi K) [.int n, .ty c] H (.bl b) := fun H1 _ _ q =>
  ⟨.int n, .ty c, _, _, b, rfl, .ty c, .base (.int n), kit_ty h, q H1 (Ex.refl H1)⟩
theorem rc_isiS {z : Str} {c : String} {b : Bool} {H : Hp} (h : kitB "str" c = some b) : RC (rIsi K) [.str z, .ty c] H (.bl b) := fun H1 _ _ q =>
  ⟨.str z, .ty c, _, _, b, rfl, .ty c, .base (.str z), kit_ty h, q H1 (Ex.refl H1)⟩
theorem pow_mono {b : Int} (hb : 1 ≤ b) {i j : Nat} (h : i ≤ j) : b ^ i ≤ b ^ j := by
  induction h with
  | refl => exact Int.le_refl _
  | @step k _ ih =>
    have hp : 0 ≤ b ^ k := Int.pow_nonneg (by omega)
    have h2 : b ^ k * 1 ≤ b ^ k * b := Int.mul_le_mul_of_nonneg_left hb hp
    rw [Int.mul_one] at h2
    rw [Int.pow_succ]
    omega
theorem pow_pos1 {b : Int} (hb : 1 ≤ b) (i : Nat) : 1 ≤ b ^ i := by
  have h := pow_mono hb (Nat.zero_le i)
  rw [Int.pow_zero] at h
  exact h
theorem log2_is {n i : Nat} (h1 : 2 ^ i ≤ n) (h2 : n < 2 ^ (i + 1)) : n.log2 = i := by
  have h0 : n ≠ 0 := by
    have := Nat.pow_pos (n := i) (show 0 < 2 by decide)
    omega
  have a := (Nat.log2_lt h0).mpr h2
  have b := (Nat.le_log2 h0).mpr h1
  omega
theorem bits_is {m : Int} {i : Nat} (h1 : 1 ≤ m) (h2 : m ≤ 2 ^ i) (h3 : i = 0 ∨ ∃ j, i = j + 1 ∧ (2 : Int) ^ j < m) : bitsOf m = (i : Int) := by
  unfold bitsOf Builtin.Int.intBits
  obtain ⟨n, hn⟩ := Int.eq_ofNat_of_zero_le (show 0 ≤ m - 1 by omega)
  rw [hn]
  have cast : ∀ k : Nat, ((2 : Int) ^ k) = ((2 ^ k : Nat) : Int) := fun k => by
    rw [Int.natCast_pow]
    rfl
  rw [cast] at h2
  have hlt : n < 2 ^ i := by omega
  rcases h3 with rfl | ⟨j, rfl, h3⟩
  · have hz : n = 0 := by
      rw [Nat.pow_zero] at hlt
      omega
    subst hz
    rfl
  · rw [cast] at h3
    have hge : 2 ^ j ≤ n := by omega
    have h0 : n ≠ 0 := by
      have := Nat.pow_pos (n := j) (show 0 < 2 by decide)
      omega
    rw [if_neg (by simpa using h0)]
    show (((n : Int).natAbs.log2 + 1 : Nat) : Int) = ((j + 1 : Nat) : Int)
    rw [Int.natAbs_natCast, log2_is hge hlt]
theorem bits_nn (m : Int) : 0 ≤ bitsOf m := Int.natCast_nonneg _
theorem ev_atI {ta tb : TE} {σ : L2.St} {H : Hp} {a : Addr} {ns : List Int} {i : Nat} {z : Int} (hs : SqL K H a (ns.map V.int)) (hi : i < ns.length) (hz : z = (i : Int)) (ha : Ev ta σ H (.ref a)) (hb : Ev tb σ H (.int z)) : Ev (tOp (rIxL K) ta tb) σ H (.int (at0 ns i)) := by
  subst hz
  exact ev_at hs hi ha hb
theorem ev_callN0 {tk : TA} {σ : L2.St} {H : Hp} {sp : Sp} {n : Nat} {gV : List V → List V → List V} {E : XK} {zs : List V} {z : V} (h : EvA tk σ H zs) (hn : zs.length = n) (hs : SpV sp (gV [] zs) H z) : Ev (tCallN 0 n sp gV E tNil tk) σ H z := fun H1 e Q q =>
  h H1 e _ fun H2 e2 => ⟨rfl, hn, hs H2 (e.trans e2) Q (fun H3 e3 => q H3 (e2.trans e3)) E⟩
end
end Ver
namespace Ver
open PySem PySem.Spec PyProof.Rows L2 Evl
/-! ### enumerate(xs, start=k), xs a list or a tuple -/
section
variable {M : Model} {A : Around} {E : Value → Shared → Prop} {s : Shared} {env : Env}
theorem type_with_kw {pos : Pos} {T : String} {args : List (Bool × Sem Value)} {kw : List (Option Str × Sem Value)} {Q : Value → Shared → Prop}
    (h1 : args.any (·.1) = false) (h2 : kw.any (·.1.isNone) = false)
    (h : wpAny M A (evalArgs (.type T) true args kw) (fun a s1 => wpAny M A (call (.type T) a.pos a.kw) Q E s1) E s) :
    wpAny M A (callWith pos (.type T) [] args kw) Q E s := by
  unfold callWith
  refine wpAny_bind (wpAny_holding ?_)
  refine wpAny_mono h (fun a s1 got => ?_) (fun _ _ x => x)
  refine wpAny_bind (wpAny_standAt ?_)
  simp only [h1, h2, Bool.or_false]
  refine wpAny_bind (wpAny_pure ?_)
  refine wpAny_bind (wpAny_mono got (fun r s2 hr => ?_) (fun _ _ x => x))
  exact wpAny_bind (wpAny_holding (wpAny_point (wpAny_pure hr)))
end
/-- the list at a, its items in new pairs, counted from k on -/
def IteL (K : PySem.W.Frag) (k : Int) (a : Addr) : It where
  go := fun i H => ∃ (xs : List V) (x : V), SqL K H a xs ∧ xs[i]? = some x
  yld := fun i H v H' => ∃ T x, v = .ref T ∧ H T = none ∧ H' = upd H T (.tup [.int (k + (i : Int)), x]) ∧ ∀ xs, SqL K H a xs → xs[i]? = some x
  stop := fun i H => ∃ xs : List V, SqL K H a xs ∧ xs.length = i
def IteT (K : PySem.W.Frag) (k : Int) (a : Addr) : It where
  go := fun i H => ∃ (xs : List V) (x : V), SqT K H a xs ∧ xs[i]? = some x
  yld := fun i H v H' => ∃ T x, v = .ref T ∧ H T = none ∧ H' = upd H T (.tup [.int (k + (i : Int)), x]) ∧ ∀ xs, SqT K H a xs → xs[i]? = some x
  stop := fun i H => ∃ xs : List V, SqT K H a xs ∧ xs.length = i
theorem two_mem {b e i : Addr} (h : b ∈ [e, i]) : b = e ∨ b = i := by simpa using h
section
variable {P : Program} {w : World} {K : PySem.W.Frag} {elts : List Expr} {kk : Nat} {tpos : Pos}
theorem turnL (k : Int) (a e it : Addr) : Turn P w K (.Tuple elts kk tpos) (IteL K k a) [e, it] e
    (fun i h => (∃ old, IsEnum h e it (k + (i : Int)) old) ∧ h.IsListIter it a i ∧ e ≠ it ∧ a ≠ it ∧ a ≠ e) where
  mem := List.mem_cons_self ..
  obj := fun i h st b hb => by
    obtain ⟨⟨old, he⟩, ⟨o, ho, _, hd⟩, _⟩ := st
    rcases two_mem hb with z | z
    · subst z
      exact ⟨_, he, fun v q => nomatch q⟩
    · subst z
      refine ⟨o, ho, fun v q => ?_⟩
      rw [hd] at q
      cases q
  keep := fun i h h' st kp => by
    obtain ⟨⟨old, he⟩, hi, r⟩ := st
    exact ⟨⟨old, kp e (by simp) _ he⟩, hi.at fun o q => kp it (by simp) o q, r⟩
  item := by
    intro X hP hw hK hc i pins s σ H E I hf st hg
    subst hP hw hK
    obtain ⟨⟨old, he⟩, hit, hei, hai, hae⟩ := st
    obtain ⟨xs, x, hq, hx⟩ := hg
    obtain ⟨its, rv, p, hz⟩ := I.list hq
    obtain ⟨u, hu, ru⟩ := rv.get hx
    have hil : i < its.toArray.size := by
      have := (List.getElem?_eq_some_iff.mp hu).1
      simpa using this
    have D := Draws.list (prog := X.prog) (w := X.w) (A := X.A.in1) (I.ok.hd hc) it a hai its.toArray
    have lte : e < s.heap.objs.size := Heap.lt_size he
    have lti : it < s.heap.objs.size := by
      obtain ⟨_, q, _⟩ := hit
      exact Heap.lt_size q
    refine wpAny_pyNext_enum_itemC D he ⟨hit, p.isList⟩ hil hei (by simp [hei, hae.symm]) ?_
    intro y h' tk hy ho hst hT hsz keep
    have eu : y = u := by
      have h2 : its.toArray[i]? = some u := by simpa using hu
      rw [h2] at hy
      exact (Option.some.inj hy).symm
    subst eu
    refine ⟨_, rfl, wpAny_letOwnedTupleGo_enum (s := { s with heap := h', toks := tk + 1 }) ho ?_⟩
    intro h2 he2 sb
    have t2 : h2.get? s.heap.objs.size = some { cls := .type "tuple", data := .seq #[.int (k + (i : Int)) tk, y] } := (sb.2 _ (Nat.ne_of_gt lte)).trans hT
    have new : ObjOk X.prog X.w (upd H s.heap.objs.size (.tup [.int (k + (i : Int)), x])) h2 s.heap.objs.size (.tup [.int (k + (i : Int)), x]) :=
      ⟨(by show 2 ≤ sizeLine; decide), [.int (k + (i : Int)) tk, y], .cons ⟨_, rfl⟩ (.cons ru .nil), ⟨_, t2, rfl, _, rfl⟩⟩
    have I1 : Inv X pins σ (upd H s.heap.objs.size (.tup [.int (k + (i : Int)), x])) { s with heap := h2, toks := tk + 1 } := by
      refine I.turnedNew (ch := [e, it]) (fun b ob nb q => ?_) hf (Nat.le_refl _) new
      have n1 : b ≠ e := fun z => nb (by simp [z])
      have n2 : b ≠ it := fun z => nb (by simp [z])
      exact (sb.2 b n1).trans (keep b ob n1 n2 q)
    refine ⟨.ref s.heap.objs.size, _, I1, rfl, ⟨_, x, rfl, I.hok.fresh (Nat.le_refl _), rfl, fun ys hy2 => ?_⟩, ⟨⟨y, ?_⟩, hst.1.at fun o q => (sb.2 it (Ne.symm hei)).trans q, hei, hai, hae⟩, fun b hb => ?_⟩
    · rw [I.list_inj hy2 hq]
      exact hx
    · have e1 : k + ((i + 1 : Nat) : Int) = k + (i : Int) + 1 := by omega
      rw [e1]
      exact he2
    · have lb : b < s.heap.objs.size := by
        rcases two_mem hb with z | z
        · rw [z]
          exact lte
        · rw [z]
          exact lti
      rw [upd_ne (Nat.ne_of_lt lb)]
      exact (hf b hb).1
  done := by
    intro X hP hw hK hc i pins s σ H E I hf st hg
    subst hP hw hK
    obtain ⟨⟨old, he⟩, hit, hei, hai, hae⟩ := st
    obtain ⟨xs, hq, hx⟩ := hg
    obtain ⟨its, rv, p, hz⟩ := I.list hq
    obtain ⟨f0, f1, f2, f3, f4, f5⟩ := hf it (by simp)
    have hl := rv.length
    have D := Draws.list (prog := X.prog) (w := X.w) (A := X.A.in1) (I.ok.hd hc) it a hai its.toArray
    have c : i = its.toArray.size := by
      simp
      omega
    subst c
    exact wpAny_pyNext_enum_endD D he ⟨hit, p.isList⟩ fun h' eb => ⟨rfl, I.turned (t' := s.toks) (fun b o hb q => eb b o hb q) f0 f1 f3 f4 f5⟩
  self := fun A i s Q E st h => by
    obtain ⟨⟨_, he⟩, _⟩ := st
    exact wpAny_pyIter_enum he h
theorem turnT (k : Int) (a e it : Addr) : Turn P w K (.Tuple elts kk tpos) (IteT K k a) [e, it] e
    (fun i h => (∃ old, IsEnum h e it (k + (i : Int)) old) ∧ h.IsTupleIter it a i ∧ e ≠ it ∧ a ≠ it ∧ a ≠ e) where
  mem := List.mem_cons_self ..
  obj := fun i h st b hb => by
    obtain ⟨⟨old, he⟩, ⟨o, ho, _, hd⟩, _⟩ := st
    rcases two_mem hb with z | z
    · subst z
      exact ⟨_, he, fun v q => nomatch q⟩
    · subst z
      refine ⟨o, ho, fun v q => ?_⟩
      rw [hd] at q
      cases q
  keep := fun i h h' st kp => by
    obtain ⟨⟨old, he⟩, hi, r⟩ := st
    exact ⟨⟨old, kp e (by simp) _ he⟩, hi.at fun o q => kp it (by simp) o q, r⟩
  item := by
    intro X hP hw hK hc i pins s σ H E I hf st hg
    subst hP hw hK
    obtain ⟨⟨old, he⟩, hit, hei, hai, hae⟩ := st
    obtain ⟨xs, x, hq, hx⟩ := hg
    obtain ⟨its, rv, p, hz⟩ := I.tuple hq
    obtain ⟨u, hu, ru⟩ := rv.get hx
    have hil : i < its.toArray.size := by
      have := (List.getElem?_eq_some_iff.mp hu).1
      simpa using this
    have D := Draws.tuple (prog := X.prog) (w := X.w) (A := X.A.in1) (I.ok.hd hc) it a hai its.toArray
    have lte : e < s.heap.objs.size := Heap.lt_size he
    have lti : it < s.heap.objs.size := by
      obtain ⟨_, q, _⟩ := hit
      exact Heap.lt_size q
    refine wpAny_pyNext_enum_itemC D he ⟨hit, (show s.heap.IsTuple a its.toArray from p)⟩ hil hei (by simp [hei, hae.symm]) ?_
    intro y h' tk hy ho hst hT hsz keep
    have eu : y = u := by
      have h2 : its.toArray[i]? = some u := by simpa using hu
      rw [h2] at hy
      exact (Option.some.inj hy).symm
    subst eu
    refine ⟨_, rfl, wpAny_letOwnedTupleGo_enum (s := { s with heap := h', toks := tk + 1 }) ho ?_⟩
    intro h2 he2 sb
    have t2 : h2.get? s.heap.objs.size = some { cls := .type "tuple", data := .seq #[.int (k + (i : Int)) tk, y] } := (sb.2 _ (Nat.ne_of_gt lte)).trans hT
    have new : ObjOk X.prog X.w (upd H s.heap.objs.size (.tup [.int (k + (i : Int)), x])) h2 s.heap.objs.size (.tup [.int (k + (i : Int)), x]) :=
      ⟨(by show 2 ≤ sizeLine; decide), [.int (k + (i : Int)) tk, y], .cons ⟨_, rfl⟩ (.cons ru .nil), ⟨_, t2, rfl, _, rfl⟩⟩
    have I1 : Inv X pins σ (upd H s.heap.objs.size (.tup [.int (k + (i : Int)), x])) { s with heap := h2, toks := tk + 1 } := by
      refine I.turnedNew (ch := [e, it]) (fun b ob nb q => ?_) hf (Nat.le_refl _) new
      have n1 : b ≠ e := fun z => nb (by simp [z])
      have n2 : b ≠ it := fun z => nb (by simp [z])
      exact (sb.2 b n1).trans (keep b ob n1 n2 q)
    refine ⟨.ref s.heap.objs.size, _, I1, rfl, ⟨_, x, rfl, I.hok.fresh (Nat.le_refl _), rfl, fun ys hy2 => ?_⟩, ⟨⟨y, ?_⟩, hst.1.at fun o q => (sb.2 it (Ne.symm hei)).trans q, hei, hai, hae⟩, fun b hb => ?_⟩
    · rw [I.tuple_inj hy2 hq]
      exact hx
    · have e1 : k + ((i + 1 : Nat) : Int) = k + (i : Int) + 1 := by omega
      rw [e1]
      exact he2
    · have lb : b < s.heap.objs.size := by
        rcases two_mem hb with z | z
        · rw [z]
          exact lte
        · rw [z]
          exact lti
      rw [upd_ne (Nat.ne_of_lt lb)]
      exact (hf b hb).1
  done := by
    intro X hP hw hK hc i pins s σ H E I hf st hg
    subst hP hw hK
    obtain ⟨⟨old, he⟩, hit, hei, hai, hae⟩ := st
    obtain ⟨xs, hq, hx⟩ := hg
    obtain ⟨its, rv, p, hz⟩ := I.tuple hq
    obtain ⟨f0, f1, f2, f3, f4, f5⟩ := hf it (by simp)
    have hl := rv.length
    have D := Draws.tuple (prog := X.prog) (w := X.w) (A := X.A.in1) (I.ok.hd hc) it a hai its.toArray
    have c : i = its.toArray.size := by
      simp
      omega
    subst c
    exact wpAny_pyNext_enum_endD D he ⟨hit, (show s.heap.IsTuple a its.toArray from p)⟩ fun h' eb => ⟨rfl, I.turned (t' := s.toks) (fun b o hb q => eb b o hb q) f0 f1 f3 f4 f5⟩
  self := fun A i s Q E st h => by
    obtain ⟨⟨_, he⟩, _⟩ := st
    exact wpAny_pyIter_enum he h
/-- what enumerate(xs, start=k) walks -/
def iEnumK (K : PySem.W.Frag) (ta tk : TA) : TI := fun σ H R => ta σ H fun vs H1 => tk σ H1 fun zs H2 => ∃ (a : Addr) (k : Int), vs = [.ref a] ∧ zs = [.int k] ∧ (0 ≤ k ∧ k ≤ 1000) ∧
  ((∃ xs, SqL K H2 a xs ∧ R (IteL K k a) H2) ∨ (∃ xs, SqT K H2 a xs ∧ R (IteT K k a) H2))
theorem pi_enumK {X : Cx} {e ke : Expr} {ta tk : TA} {p pos tpos kpos : Pos} {elts : List Expr} {kk : Nat} (gl : Gl X "enumerate") (no : X.mg "enumerate" = none) (ha : PA X [e] ta) (hk : PK X [⟨some (Str.ofString "start"), ke, kpos⟩] tk)
    (h1 : backTo pos (starEach [e] X.env) = (false, eval e X.env) :: backTo pos (starEach [] X.env) := by rfl) (h2 : (backTo pos (starEach [e] X.env)).any (·.1) = false := by rfl)
    (h3 : (backToKw pos (keywordEach [⟨some (Str.ofString "start"), ke, kpos⟩] X.env)).all (·.1.isSome) = true := by rfl)
    (h4 : (backToKw pos (keywordEach [⟨some (Str.ofString "start"), ke, kpos⟩] X.env)).any (·.1.isNone) = false := by rfl)
    (h5 : (backToKw pos (keywordEach [⟨some (Str.ofString "start"), ke, kpos⟩] X.env)).filterMap (·.1) = [Str.ofString "start"] := by rfl) :
    PI X (.Tuple elts kk tpos) (.Call (.Name "enumerate" p) [e] [⟨some (Str.ofString "start"), ke, kpos⟩] pos) (iEnumK X.K ta tk) := by
  refine ⟨fun pins s σ H R I h => ?_⟩
  refine wpAny_Call_Name_kw (ld_blt I gl no boot_enumerate ?_ (by decide) (by decide))
  refine type_with_kw h2 h4 ?_
  have run := ha.run pos pins s σ H _ I h
  rw [h1] at run ⊢
  refine evalArgs_kwB h3 (thn run ?_)
  intro us s1 got
  obtain ⟨vs, H1, I1, r1, q1⟩ := got
  refine thn (hk.run pos pins s1 σ H1 _ I1 q1) ?_
  intro ws s2 got2
  obtain ⟨zs, H2, I2, r2, a, k, rfl, rfl, hkb, q2⟩ := got2
  rw [h5]
  obtain ⟨u, rfl, ru⟩ := vals1 r1
  obtain ⟨v, rfl, rv⟩ := vals1 r2
  cases (show u = Value.ref a from ru)
  obtain ⟨t, rfl⟩ := rv
  have fin : ∀ (h' : Heap) (J : It) (tn : Nat → Heap → Prop), (∀ b o, s2.heap.get? b = some o → h'.get? b = some o) → Turn X.prog X.w X.K (.Tuple elts kk tpos) J [s2.heap.objs.size + 1, s2.heap.objs.size] (s2.heap.objs.size + 1) tn → tn 0 h' → R J H2 →
      PIE X pins σ (.Tuple elts kk tpos) R (.ref (s2.heap.objs.size + 1)) { s2 with heap := h' } := by
    intro h' J tn keep tr t0 q
    have I3 : Inv X pins σ H2 { s2 with heap := h' } := I2.kept (t' := s2.toks) keep
    refine ⟨s2.heap.objs.size + 1, [s2.heap.objs.size + 1, s2.heap.objs.size], tn, J, H2, rfl, I3, tr, t0, fun b hb => ?_, q⟩
    have le : s2.heap.objs.size ≤ b := by
      rcases two_mem hb with z | z
      · rw [z]
        exact Nat.le_add_right _ _
      · rw [z]
        exact Nat.le_refl _
    exact I2.fpOk le (I2.hok.fresh le)
  have k0 : k + ((0 : Nat) : Int) = k := by simp
  rcases q2 with ⟨xs, hs, q⟩ | ⟨xs, hs, q⟩
  · obtain ⟨its, _, p', _⟩ := I2.list hs
    have la : a < s2.heap.objs.size := p'.lt
    refine enum_begins_start (begins_list a its.toArray) p'.isList (by omega) (by omega) fun h' he hit hsz keep => wpAny_pyIter_enum he ?_
    exact fin h' _ _ keep (turnL k a _ _) ⟨⟨.none, by rw [k0]; exact he⟩, ⟨_, hit, rfl, rfl⟩, Nat.succ_ne_self _, Nat.ne_of_lt la, Nat.ne_of_lt (Nat.lt_succ_of_lt la)⟩ q
  · obtain ⟨its, _, p', _⟩ := I2.tuple hs
    have la : a < s2.heap.objs.size := p'.lt
    refine enum_begins_start (begins_tuple a its.toArray) (show s2.heap.IsTuple a its.toArray from p') (by omega) (by omega) fun h' he hit hsz keep => wpAny_pyIter_enum he ?_
    exact fin h' _ _ keep (turnT k a _ _) ⟨⟨.none, by rw [k0]; exact he⟩, ⟨_, hit, rfl, rfl⟩, Nat.succ_ne_self _, Nat.ne_of_lt la, Nat.ne_of_lt (Nat.lt_succ_of_lt la)⟩ q
end
end Ver
namespace Ver
open PySem PySem.Spec PyProof.Rows L2 Evl
/-! ### zip of two texts, in new pairs -/
def Izs (x y : Str) : It where
  go := fun i H => i < x.cps.size ∧ i < y.cps.size
  yld := fun i H v H' => ∃ T c d, v = .ref T ∧ H T = none ∧ H' = upd H T (.tup [.str ⟨#[c]⟩, .str ⟨#[d]⟩]) ∧ x.cps[i]? = some c ∧ y.cps[i]? = some d
  stop := fun i H => i ≤ x.cps.size ∧ i ≤ y.cps.size ∧ (i = x.cps.size ∨ i = y.cps.size)
section
variable {P : Program} {w : World} {K : PySem.W.Frag} {elts : List Expr} {kk : Nat} {tpos : Pos}
theorem five_mem {c z a b d e : Addr} (h : c ∈ [z, a, b, d, e]) : c = z ∨ c = a ∨ c = b ∨ c = d ∨ c = e := by simpa using h
theorem si_at {h h' : Heap} {i : Addr} {n : String} {x : Str} {t : Tok} {k : Nat} (s : h.IsStrIter i n x t k) (f : ∀ o, h.get? i = some o → h'.get? i = some o) : h'.IsStrIter i n x t k := by
  obtain ⟨o, e, r⟩ := s
  exact ⟨o, f o e, r⟩
theorem turnZs (x y : Str) (t u : Tok) (z TI TO i1 i2 : Addr) (S : ZipSep2 z TI TO i1 i2 [i1] [i2]) : Turn P w K (.Tuple elts kk tpos) (Izs x y) [z, TI, TO, i1, i2] z
    (fun i h => IsZip h z TI TO .none ∧ IsTupOf2 h TI (.ref i1) (.ref i2) ∧ (∃ a1 a2, IsTupOf2 h TO a1 a2) ∧ h.IsStrIter i1 (strIterType x) x t i ∧ h.IsStrIter i2 (strIterType y) y u i) where
  mem := List.mem_cons_self ..
  obj := fun i h st c hc => by
    obtain ⟨hz, hTI, ⟨a1, a2, hTO⟩, ⟨o1, e1, _, d1⟩, ⟨o2, e2, _, d2⟩⟩ := st
    rcases five_mem hc with q | q | q | q | q
    · rw [q]; exact ⟨_, hz, fun v q => nomatch q⟩
    · rw [q]; exact ⟨_, hTI, fun v q => nomatch q⟩
    · rw [q]; exact ⟨_, hTO, fun v q => nomatch q⟩
    · rw [q]; exact ⟨o1, e1, fun v q => by rw [d1] at q; cases q⟩
    · rw [q]; exact ⟨o2, e2, fun v q => by rw [d2] at q; cases q⟩
  keep := fun i h h' st k => by
    obtain ⟨hz, hTI, ⟨a1, a2, hTO⟩, h1, h2⟩ := st
    exact ⟨k z (by simp) _ hz, k TI (by simp) _ hTI, ⟨a1, a2, k TO (by simp) _ hTO⟩, si_at h1 fun o q => k i1 (by simp) o q, si_at h2 fun o q => k i2 (by simp) o q⟩
  item := by
    intro X hP hw hK hc i pins s σ H E I hf st hg
    subst hP hw hK
    obtain ⟨hz, hTI, ⟨a1, a2, hTO⟩, h1, h2⟩ := st
    have D1 := Draws.text (prog := X.prog) (w := X.w) (A := X.A.in1) (I.ok.hd hc) i1 x t
    have D2 := Draws.text (prog := X.prog) (w := X.w) (A := X.A.in1) (I.ok.hd hc) i2 y u
    have hzl : z < s.heap.objs.size := Heap.lt_size hz
    have l1 : i1 < s.heap.objs.size := by
      obtain ⟨o, e, _⟩ := h1
      exact Heap.lt_size e
    have l2 : i2 < s.heap.objs.size := by
      obtain ⟨o, e, _⟩ := h2
      exact Heap.lt_size e
    refine wpAny_pyNext_zipD2_item S D1 D2 hz hTI hTO h1 h2 hg.1 hg.2 fun y1 y2 h' tk ⟨c, u1, hc1, ev1⟩ ⟨d, u2, hd1, ev2⟩ b1 b2 s1 s2 hT hsz hk => ?_
    subst ev1
    subst ev2
    refine ⟨_, rfl, wpAny_letOwnedTupleGo_zip (s := { s with heap := h', toks := tk }) b1 fun h'' z'' sb => ?_⟩
    have hT2 : h''.get? s.heap.objs.size = some { cls := .type "tuple", data := .seq #[.str ⟨#[c]⟩ u1, .str ⟨#[d]⟩ u2] } := (sb.2 _ (Nat.ne_of_gt hzl)).trans hT
    have new : ObjOk X.prog X.w (upd H s.heap.objs.size (.tup [.str ⟨#[c]⟩, .str ⟨#[d]⟩])) h'' s.heap.objs.size (.tup [.str ⟨#[c]⟩, .str ⟨#[d]⟩]) :=
      ⟨(by show 2 ≤ sizeLine; decide), [.str ⟨#[c]⟩ u1, .str ⟨#[d]⟩ u2], .cons ⟨_, rfl⟩ (.cons ⟨_, rfl⟩ .nil), ⟨_, hT2, rfl, _, rfl⟩⟩
    have I1 : Inv X pins σ (upd H s.heap.objs.size (.tup [.str ⟨#[c]⟩, .str ⟨#[d]⟩])) { s with heap := h'', toks := tk } := by
      refine I.turnedNew (ch := [z, TI, TO, i1, i2]) (fun b ob nb q => ?_) hf (Nat.le_refl _) new
      exact (sb.2 b (fun q' => nb (by simp [q']))).trans (hk b ob (fun q' => nb (by simp [q'])) (fun q' => nb (by simp [q'])) (fun q' => nb (by simp [q'])) (fun q' => nb (by simp [q'])) q)
    refine ⟨.ref s.heap.objs.size, _, I1, rfl, ⟨_, c, d, rfl, I.hok.fresh (Nat.le_refl _), rfl, hc1, hd1⟩, ⟨z'', ?_, ⟨.str ⟨#[c]⟩ u1, .str ⟨#[d]⟩ u2, ?_⟩, ?_, ?_⟩, fun b hb => ?_⟩
    · exact (sb.2 _ S.TIz).trans (hk _ _ S.TIz S.TITO S.TIi1 S.TIi2 hTI)
    · exact (sb.2 _ S.TOz).trans b2
    · exact si_at s1 fun o q => (sb.2 _ S.zi1.symm).trans q
    · exact si_at s2 fun o q => (sb.2 _ S.zi2.symm).trans q
    · have hlt : b < s.heap.objs.size := by
        rcases five_mem hb with q | q | q | q | q
        · rw [q]; exact hzl
        · rw [q]; exact Heap.lt_size hTI
        · rw [q]; exact Heap.lt_size hTO
        · rw [q]; exact l1
        · rw [q]; exact l2
      rw [upd_ne (Nat.ne_of_lt hlt)]
      exact (hf b hb).1
  done := by
    intro X hP hw hK hc i pins s σ H E I hf st hg
    subst hP hw hK
    obtain ⟨hz, hTI, ⟨a1, a2, hTO⟩, h1, h2⟩ := st
    have D1 := Draws.text (prog := X.prog) (w := X.w) (A := X.A.in1) (I.ok.hd hc) i1 x t
    have D2 := Draws.text (prog := X.prog) (w := X.w) (A := X.A.in1) (I.ok.hd hc) i2 y u
    exact wpAny_pyNext_zipD2_end S D1 D2 hz hTI hTO h1 h2 hg.1 hg.2.1 hg.2.2 fun h' tk hk => ⟨rfl, I.turnedL (t' := tk) (ch := [z, TI, TO, i1, i2]) (fun c o hb q =>
      hk c o (fun q' => hb (by simp [q'])) (fun q' => hb (by simp [q'])) (fun q' => hb (by simp [q'])) (fun q' => hb (by simp [q'])) q) hf⟩
  self := fun A i s Q E st h => wpAny_pyIter_zip st.1 h
theorem ne_nat {a b : Nat} (h : a ≠ b) : (show Addr from a) ≠ (show Addr from b) := h
theorem sep_n (n : Nat) : ZipSep2 (n + 4) (n + 2) (n + 3) n (n + 1) [n] [n + 1] :=
  ⟨ne_nat (by omega), ne_nat (by omega), ne_nat (by omega), ne_nat (by omega), List.mem_singleton.mpr rfl, fun h => absurd (List.mem_singleton.mp h) (ne_nat (by omega)), fun h => absurd (List.mem_singleton.mp h) (ne_nat (by omega)),
    ne_nat (by omega), List.mem_singleton.mpr rfl, fun h => absurd (List.mem_singleton.mp h) (ne_nat (by omega)), fun h => absurd (List.mem_singleton.mp h) (ne_nat (by omega)), fun h => absurd (List.mem_singleton.mp h) (ne_nat (by omega)), fun h => absurd (List.mem_singleton.mp h) (ne_nat (by omega))⟩
def iZipS (ta : TA) : TI := fun σ H R => ta σ H fun vs H1 => ∃ x y, vs = [.str x, .str y] ∧ R (Izs x y) H1
theorem pi_zipS {X : Cx} {e e2 : Expr} {ta : TA} {p pos tpos : Pos} {elts : List Expr} {kk : Nat} (hg : Gl X "zip") (hm : X.mg "zip" = none) (ha : PA X [e, e2] ta)
    (hs : starEach [e, e2] X.env = (false, eval e X.env) :: starEach [e2] X.env := by rfl) (hpl : (backTo pos (starEach [e2] X.env)).any (·.1) = false := by rfl) :
    PI X (.Tuple elts kk tpos) (.Call (.Name "zip" p) [e, e2] [] pos) (iZipS ta) := by
  refine ⟨fun pins s σ H R I h => ?_⟩
  refine Call_ (ld_blt I hg hm PyProof.Rows.boot_zip (PyProof.Rows.callWith_type1 (thn (ha.run pos pins s σ H _ I h) fun us s1 ⟨vs, H1, I1, r1, q1⟩ => ?_) hs hpl))
  obtain ⟨x, y, ex, q⟩ := q1
  subst ex
  cases r1 with
  | cons r rr =>
    cases rr with
    | cons r' rr =>
      cases rr
      obtain ⟨t, rfl⟩ := r
      obtain ⟨u, rfl⟩ := r'
      refine zip_begins2 (begins_text x t) (begins_text y u) trivial trivial fun h' hz hTI hTO g1 g2 hsz hk => wpAny_pyIter_zip hz ?_
      have I2 : Inv X pins σ H1 { s1 with heap := h' } := I1.kept (t' := s1.toks) hk
      have S := sep_n s1.heap.objs.size
      refine ⟨s1.heap.objs.size + 4, [s1.heap.objs.size + 4, s1.heap.objs.size + 2, s1.heap.objs.size + 3, s1.heap.objs.size, s1.heap.objs.size + 1], _, _, H1, rfl, I2, turnZs x y t u _ _ _ _ _ S, ⟨hz, hTI, ⟨_, _, hTO⟩, ⟨_, g1, rfl, rfl⟩, ⟨_, g2, rfl, rfl⟩⟩, fun c hcm => ?_, q⟩
      have hle : s1.heap.objs.size ≤ c := by
        rcases five_mem hcm with z | z | z | z | z
        · rw [z]; exact Nat.le_add_right _ _
        · rw [z]; exact Nat.le_add_right _ _
        · rw [z]; exact Nat.le_add_right _ _
        · rw [z]; exact Nat.le_refl _
        · rw [z]; exact Nat.le_add_right _ _
      exact I1.fpOk hle (I1.hok.fresh hle)
end
end Ver
namespace Ver
open PySem PySem.Spec PyProof.Rows L2 Evl
section
open AutoSeq1 (wpAny_loadPart')
theorem meets_enumerate_newT (l : Addr) (items : Array Value) (n : Nat) (dct : Option Addr) (sl : Array (Option Value)) :
    Meets (Builtin.«enumerate.__new__» ⟨[.type "enumerate", .ref l], []⟩) (fun _ R s => s.heap.get? l = some { cls := .type "tuple", dict := dct, data := .seq items n, slots := sl } ∧
      R (.ok (.ret (.ref (s.heap.push { cls := .type "tuple_iterator", data := .fields #[.ref l, .int 0 0] }).objs.size)))
        { s with heap := (s.heap.push { cls := .type "tuple_iterator", data := .fields #[.ref l, .int 0 0] }).push { cls := .type "enumerate", data := .fields #[.none, .bool false, .ref s.heap.objs.size, rawInt 0, .none, .none] } }) :=
  .of_wp fun prog w A R s h => by
    obtain ⟨hp, g, d, tk, os⟩ := s; obtain ⟨hl, h⟩ := h
    have hsub := sub_enumerate
    have hL : Heap.IsTuple (Shared.heap ⟨hp, g, d, tk, os⟩) l items := ⟨_, hl, rfl, n, rfl⟩
    wp_walk using wpAny_loadPart' hl
    refine wpAny_stack_any fun st => wpAny_pure ?_
    split
    · rename_i c _ _ _ _ _
      cases (c == Value.type "enumerate")
      · wp_walk using wpAny_loadPart' hl, wpAny_pyIter_tuple hL
        exact ⟨_, rfl, h⟩
      · wp_walk using wpAny_loadPart' hl, wpAny_pyIter_tuple hL
        exact ⟨_, rfl, h⟩
    · wp_walk using wpAny_loadPart' hl, wpAny_pyIter_tuple hL
      exact ⟨_, rfl, h⟩
end
section
variable {prog : Program} {w : World} {A : Around} {E : Value → Shared → Prop} {s : Shared}
theorem call_enumerate_tuple {l : Addr} {items : Array Value} {Q : Value → Shared → Prop} (hL : s.heap.IsTuple l items)
    (h : ∀ h', IsEnum h' (s.heap.objs.size + 1) s.heap.objs.size 0 .none → h'.get? s.heap.objs.size = some { cls := .type "tuple_iterator", data := .fields #[.ref l, .int 0 0] } → h'.objs.size = s.heap.objs.size + 2 →
      (∀ b o, s.heap.get? b = some o → h'.get? b = some o) → Q (.ref (s.heap.objs.size + 1)) { s with heap := h' }) :
    wpAny (model prog w) A (call (.type "enumerate") [.ref l]) Q E s := by
  obtain ⟨⟨c, dct, dt, sl⟩, hl, hc, n, hd⟩ := hL
  replace hc : c = .type "tuple" := hc
  replace hd : dt = .seq items n := hd
  subst hc hd
  refine callType_new F.called_enumerate (by decide) (F.typeCall_enumerate_1 _) (F.newCall_enumerate_1 _) (fun obj => F.args_object_init_2 obj _) F.entry_enumerate_new
    (meets_enumerate_newT l items n dct sl) ⟨hl, ?_⟩
  have hz : (s.heap.push { cls := .type "tuple_iterator", data := .fields #[.ref l, .int 0 0] }).objs.size = s.heap.objs.size + 1 := Heap.size_push ..
  show _ ∧ _
  rw [hz]
  have he : IsEnum ((s.heap.push { cls := .type "tuple_iterator", data := .fields #[.ref l, .int 0 0] }).push
      { cls := .type "enumerate", data := .fields #[.none, .bool false, .ref s.heap.objs.size, rawInt 0, .none, .none] }) (s.heap.objs.size + 1) s.heap.objs.size 0 .none := by
    have := Heap.get?_push_size (s.heap.push { cls := .type "tuple_iterator", data := .fields #[.ref l, .int 0 0] })
      (o := { cls := .type "enumerate", data := .fields #[.none, .bool false, .ref s.heap.objs.size, rawInt 0, .none, .none] }) rfl
    rw [hz] at this; exact this
  refine ⟨⟨_, he, rfl⟩, h _ he (Heap.get?_push_of_some _ (Heap.get?_push_size _ rfl)) (by rw [Heap.size_push, hz]) fun b o x => Heap.get?_push_of_some _ (Heap.get?_push_of_some _ x)⟩
end
def iEnumT (K : PySem.W.Frag) (ta : TA) : TI := fun σ H R => ta σ H fun vs H1 => ∃ (a : Addr) (xs : List V), vs = [.ref a] ∧ SqT K H1 a xs ∧ R (IteT K 0 a) H1
theorem pi_enumT {X : Cx} {e : Expr} {ta : TA} {p pos tpos : Pos} {elts : List Expr} {kk : Nat} (hg : Gl X "enumerate") (hm : X.mg "enumerate" = none) (ha : PA X [e] ta) (hs : starEach [e] X.env = [(false, eval e X.env)] := by rfl) :
    PI X (.Tuple elts kk tpos) (.Call (.Name "enumerate" p) [e] [] pos) (iEnumT X.K ta) := by
  refine ⟨fun pins s σ H R I h => ?_⟩
  refine Call_ (ld_blt I hg hm boot_enumerate (PyProof.Rows.callWith_type1 (thn (ha.run pos pins s σ H _ I h) fun us s1 ⟨vs, H1, I1, r1, q1⟩ => ?_) hs rfl))
  obtain ⟨a, xs, ex, hq, q⟩ := q1
  subst ex
  cases r1 with
  | cons r rr =>
    cases rr
    cases r
    obtain ⟨its, rv, p', hz⟩ := I1.tuple hq
    have la : a < s1.heap.objs.size := p'.lt
    refine call_enumerate_tuple (show s1.heap.IsTuple a its.toArray from p') fun h' he hit hsz hk => wpAny_pyIter_enum he ?_
    have I2 : Inv X pins σ H1 { s1 with heap := h' } := I1.kept (t' := s1.toks) hk
    have k0 : (0 : Int) + ((0 : Nat) : Int) = 0 := by simp
    refine ⟨s1.heap.objs.size + 1, [s1.heap.objs.size + 1, s1.heap.objs.size], _, _, H1, rfl, I2, turnT 0 a (s1.heap.objs.size + 1) s1.heap.objs.size, ⟨⟨.none, by rw [k0]; exact he⟩, ⟨_, hit, rfl, rfl⟩, Nat.succ_ne_self _, Nat.ne_of_lt la, Nat.ne_of_lt (Nat.lt_succ_of_lt la)⟩, fun b hb => ?_, q⟩
    have hle : s1.heap.objs.size ≤ b := by
      rcases two_mem hb with z | z
      · rw [z]; exact Nat.le_add_right _ _
      · rw [z]; exact Nat.le_refl _
    exact I1.fpOk hle (I1.hok.fresh hle)
/-! ### what follows: readings of walks with pairs -/
section
variable {K : PySem.W.Frag}
theorem walk_zs {x y : Str} : Walk (Izs x y) (min x.cps.size y.cps.size) (fun _ => True) (YPair (fun i => (x.cps.toList[i]?).map fun c => V.str ⟨#[c]⟩) (fun i => (y.cps.toList[i]?).map fun c => V.str ⟨#[c]⟩)) := by
  refine ⟨fun i _ hi q => ?_, fun _ q => ?_, fun i H v H' hi q y' => ?_⟩
  · show i < x.cps.size ∧ i < y.cps.size
    omega
  · show _ ≤ x.cps.size ∧ _ ≤ y.cps.size ∧ _
    omega
  obtain ⟨T, c, d, h1, h2, h3, h4, h5⟩ := y'
  refine ⟨T, .str ⟨#[c]⟩, .str ⟨#[d]⟩, h1, h2, h3, ?_, ?_⟩
  · show Option.map _ (x.cps.toList[i]?) = _
    rw [Array.getElem?_toList, h4]
    rfl
  · show Option.map _ (y.cps.toList[i]?) = _
    rw [Array.getElem?_toList, h5]
    rfl
end
end Ver
namespace Ver
open PySem PySem.Spec PyProof.Rows L2 Evl
open PySem.Builtin PySem.Builtin.Float
/-! ### f"{n:b}" -/
def binS (n : Nat) : Str := ⟨((Nat.toDigits 2 n).map Char.toNat).toArray⟩
def fB : FormatSpec := { align := 62, type := some 98 }
theorem parse_b (name : String) : parseFormatSpec (Str.ofString "b").cps.toList name 62 = .ok fB := by rfl
section
variable {prog : Program} {w : World} {A : Around} {E : Value → Shared → Prop} {s : Shared}
theorem plain_field {D : List Nat} (h : D.isEmpty = false) : intField' { align := 62, type := some 98 } false [] D [] 4 = ⟨D.toArray⟩ := by
  unfold intField'
  simp [h]
theorem field_b {n : Nat} {t : Tok} {sp : Str} {f : FormatSpec} {Q : Value → Shared → Prop} (hz : (binS n).length ≤ sizeLine) (sz : sp.length ≤ sizeLine) (hne : (sp.length == 0) = false)
    (hasc : ((sp.cps.toList.drop 1).any (· ≥ 128) || (sp.cps.getD 0 0 ≥ 128 && !([60, 62, 61, 94] : List Nat).contains (sp.cps.getD 1 0))) = false)
    (hp : ∀ name, parseFormatSpec sp.cps.toList name 62 = .ok f) (hf : f = { align := 62, type := some 98 })
    (h : ∀ k1 k2, Q (.str (binS n) k1) { s with toks := k2 }) :
    wpAny (model prog w) A (formatField (.int (n : Int) t) sp) Q E s := by
  show wpAny _ _ (holding [.int (n : Int) t] (pyFormat (.int (n : Int) t) sp)) Q E s
  refine wpAny_holding ?_
  unfold pyFormat
  refine wpAny_bind (wpAny_mkStr ?_ sz)
  have isI : ∀ s' : Shared, s'.TypeIs (.int (n : Int) t) "int" := fun s' => typeIs_int s' (n : Int) t
  refine wpAny_bind (m := callSpecial? (.int (n : Int) t) (Str.ofString "__format__") [.str sp s.toks])
    (wpAny_callSpecial?_slot (name := Str.ofString "__format__") (isI _) slot_int_format ?_)
  refine wpAny_call (codeAny_call_builtin slot_int_format.plain entry_int_format
    (slot_int_format.check _ _ _ _ _ _ _ _ (isI _) (args_int_format _ _) ?_))
  unfold Builtin.«int.__format__»
  have hv : (Value.str sp s.toks == Value.none) = false := rfl
  simp only [selfAndOne, noKeywords, Int.intOfSelf, asInt?, asStr?, List.isEmpty_nil, if_true, pure_bind, bind_pure, bind_assoc, hne, hasc, Bool.false_eq_true, if_false, hv]
  refine wpAny_bind (wpAny_typeNameOf (T := "str") (typeIs_str _ _ _) (by decide) ?_)
  intro kind
  refine wpAny_bind (wpAny_typeNameOfCut_int ?_)
  have hty : f.type.getD (if sp.cps.back? == some 0 then 0 else 100) = 98 := by
    rw [hf]
    rfl
  have hpr : f.precision = none := by rw [hf]
  have hnz : f.noNeg0 = false := by rw [hf]
  have hw : f.width = none := by rw [hf]
  have hal : f.alt = false := by rw [hf]
  simp only [hp, hty]
  rw [if_pos (by decide)]
  show wpAny _ _ (if _ then _ else _) _ _ _
  rw [if_neg (by simp [hpr])]
  show wpAny _ _ (if _ then _ else _) _ _ _
  rw [if_neg (by simp [hnz])]
  show wpAny _ _ (if _ then _ else _) _ _ _
  rw [if_neg (by decide)]
  show wpAny _ _ (if _ then _ else _) _ _ _
  rw [if_neg (by decide)]
  show wpAny _ _ (if _ then _ else _) _ _ _
  rw [if_neg (by simp [hw])]
  show wpAny _ _ (retStr _) _ _ _
  unfold retStr
  have neg : decide ((n : Int) < 0) = false := by
    rw [decide_eq_false_iff_not]
    omega
  have ab : ((n : Int)).natAbs = n := Int.natAbs_natCast n
  have up : (fun c : Char => (if ((98 : Nat) == 88) = true then c.toUpper else c).toNat) = Char.toNat := by
    funext c
    rfl
  have b2 : ((2 : Nat) == 10) = false := rfl
  simp only [hal, neg, ab, up, b2, Bool.false_eq_true, if_false]
  subst hf
  have len1 := tDigits_len_ge 2 n
  unfold binS at hz h
  generalize hD : (Nat.toDigits 2 n).map Char.toNat = D at hz h ⊢
  have hD2 : D.isEmpty = false := by
    rw [← hD]
    cases hE : Nat.toDigits 2 n with
    | nil =>
      rw [hE] at len1
      exact absurd len1 (by decide)
    | cons x r => rfl
  refine wpAny_bind (wpAny_mkStr (wpAny_pure ?_) ?hs2)
  case hs2 =>
    show (intField' { align := 62, type := some 98 } false [] D [] 4).length ≤ sizeLine
    rw [plain_field hD2]
    exact hz
  have e : ∀ (k1 : Tok) (k2 : Nat), Q (.str (intField' { align := 62, type := some 98 } false [] D [] 4) k1) { s with toks := k2 } := by
    rw [plain_field hD2]
    exact h
  dsimp only
  refine wpAny_bind (wpAny_isInstance (typeIs_str _ _ _) isSubtype_str_str ?_)
  exact wpAny_pure (e _ _)
end
/-- f"{n:b}" of a number that is not below 0 -/
def tBin (te : TE) : TE := fun σ H Q => te σ H fun x H1 => ∃ n : Nat, x = .int (n : Int) ∧ n < 2 ^ 1000 ∧ Q (.str (binS n)) H1
theorem binS_len {n : Nat} (h : n < 2 ^ 1000) : (binS n).length ≤ sizeLine := by
  have e : (binS n).length = (bins n).length := by
    unfold binS bins Str.length
    simp
  rw [e]
  exact Nat.le_trans (bins_len (by decide) h) (by decide)
theorem spec_facts : (Str.ofString "b").length ≤ sizeLine ∧ ((Str.ofString "b").length == 0) = false ∧
    (((Str.ofString "b").cps.toList.drop 1).any (· ≥ 128) || ((Str.ofString "b").cps.getD 0 0 ≥ 128 && !([60, 62, 61, 94] : List Nat).contains ((Str.ofString "b").cps.getD 1 0))) = false := by decide +kernel
theorem pe_bin {X : Cx} {e se : Expr} {te : TE} {pos : Pos} (he : PE X e te) (hs : PE X se (tC (.str (Str.ofString "b")))) : PE X (.FormattedValue e (-1) (some se) pos) (tBin te) := by
  refine ⟨fun pins s σ H Q I h => ?_⟩
  refine wpAny_FormattedValue_spec (thn (he.run pins s σ H _ I h) ?_)
  intro v s1 got
  obtain ⟨x, H1, I1, r1, n, rfl, hn, q⟩ := got
  obtain ⟨t, rfl⟩ := r1
  refine thn (hs.run pins s1 σ H1 (fun y H2 => y = .str (Str.ofString "b") ∧ Q (.str (binS n)) H2) I1 ⟨rfl, q⟩) ?_
  intro r s2 got2
  obtain ⟨y, H2, I2, r2, rfl, q2⟩ := got2
  obtain ⟨t2, rfl⟩ := r2
  obtain ⟨z1, z2, z3⟩ := spec_facts
  exact ⟨_, t2, rfl, field_b (binS_len hn) z1 z2 z3 parse_b rfl fun k1 k2 => ⟨.str (binS n), H2, I2.tok k2, ⟨k1, rfl⟩, q2⟩⟩
theorem ev_bin {te : TE} {σ : L2.St} {H : Hp} {n : Nat} (h : Ev te σ H (.int (n : Int))) (hn : n < 2 ^ 1000) : Ev (tBin te) σ H (.str (binS n)) := fun H1 e Q q =>
  h H1 e _ fun H2 e2 => ⟨n, rfl, hn, q H2 e2⟩
end Ver
namespace Ver
open PySem PySem.Spec PyProof.Rows L2 Evl
section
variable {P : Program} {w : World} {K : PySem.W.Frag} {mg : Str → Option Value} {base : Heap}
theorem walk_eL {k : Int} {a : Addr} {xs : List V} : Walk (IteL K k a) xs.length (fun H => SqL K H a xs) (YPair (fun i => some (.int (k + (i : Int)))) (fun i => xs[i]?)) := by
  refine ⟨fun i _ hi q => ⟨xs, xs[i], q, by simp [hi]⟩, fun _ q => ⟨xs, q, rfl⟩, fun i H v H' _ q y => ?_⟩
  obtain ⟨T, x, h1, h2, h3, h4⟩ := y
  exact ⟨T, .int (k + (i : Int)), x, h1, h2, h3, rfl, h4 xs q⟩
theorem walk_eT {k : Int} {a : Addr} {xs : List V} : Walk (IteT K k a) xs.length (fun H => SqT K H a xs) (YPair (fun i => some (.int (k + (i : Int)))) (fun i => xs[i]?)) := by
  refine ⟨fun i _ hi q => ⟨xs, xs[i], q, by simp [hi]⟩, fun _ q => ⟨xs, q, rfl⟩, fun i H v H' _ q y => ?_⟩
  obtain ⟨T, x, h1, h2, h3, h4⟩ := y
  exact ⟨T, .int (k + (i : Int)), x, h1, h2, h3, rfl, h4 xs q⟩
theorem s_forE {tl tk : TA} {tb : TS} {D : Ends} {σ : L2.St} {H : Hp} {a : Addr} {k : Int} {xs : List V} {j1 j2 : Nat} (h : EvA tl σ H [.ref a]) (hk : EvA tk σ H [.int k]) (hb : 0 ≤ k ∧ k ≤ 1000) (hx : SqL K H a xs ∨ SqT K H a xs)
    (Pv : Nat → L2.St → Hp → Prop) (h0 : ∀ H1, Ex H H1 → Pv 0 σ H1) (hG : ∀ i σ' H', Pv i σ' H' → Ex H H')
    (hs : ∀ i x σ' H' H2, xs[i]? = some x → Pv i σ' H' → Ex H' H2 → tb { D with nx := Pv (i + 1), ct := Pv (i + 1), bk := D.nx } ((σ'.set j1 (some (.int (k + (i : Int))))).set j2 (some x)) H2)
    (hd : ∀ σ' H', Pv xs.length σ' H' → D.nx σ' H') : tFor (iEnumK K tl tk) (gTup K 2 (gCons (gName j1) (gCons (gName j2) gNil))) tb D σ H := by
  refine h H (Ex.refl H) _ fun H1 e1 => hk H1 e1 _ fun H2 e2 => ?_
  have e12 := e1.trans e2
  have step : ∀ (i : Nat) (x : V) (σ' : L2.St) (H3 H4 : Hp), i < xs.length → Pv i σ' H3 → YPair (fun i => some (.int (k + (i : Int)))) (fun i => xs[i]?) i H3 x H4 →
      gTup K 2 (gCons (gName j1) (gCons (gName j2) gNil)) x σ' H4 fun σ2 H5 => tb { D with nx := Pv (i + 1), ct := Pv (i + 1), bk := D.nx } σ2 H5 := by
    intro i v σ' H3 H4 _ p y
    obtain ⟨T, x, z, rfl, hT, rfl, e3, e4⟩ := y
    cases e3
    exact ⟨T, [.int (k + (i : Int)), z], rfl, st_of upd_same, rfl, _, _, rfl, _, _, rfl, rfl, hs i z σ' H3 _ e4 p (Ex.new hT)⟩
  refine ⟨a, k, rfl, rfl, hb, ?_⟩
  rcases hx with hx | hx
  · exact .inl ⟨xs, ex_l e12 hx, for_it (walk_eL (xs := xs)) Pv (h0 H2 e12) (fun i σ' H' _ p => ex_l (hG i σ' H' p) hx) step hd⟩
  · exact .inr ⟨xs, ex_t e12 hx, for_it (walk_eT (xs := xs)) Pv (h0 H2 e12) (fun i σ' H' _ p => ex_t (hG i σ' H' p) hx) step hd⟩
theorem ev_bm {r : V → List V → Hp → VK → Prop} {to : TE} {ta : TA} {σ : L2.St} {H : Hp} {ty : String} {x z : V} {vs : List V} (hx : Ev to σ H x) (ht : ∀ H1, Ex H H1 → tyV K ty x H1) (ha : EvA ta σ H vs)
    (hr : ∀ H1, Ex H H1 → ∀ Q : VK, (∀ H2, Ex H1 H2 → Q z H2) → r x vs H1 Q) : Ev (tBM K ty r to ta) σ H z := fun H1 e Q q =>
  hx H1 e _ fun H2 e2 => ⟨ht H2 (e.trans e2), ha H2 (e.trans e2) _ fun H3 e3 => hr H3 ((e.trans e2).trans e3) Q fun H4 e4 => q H4 ((e2.trans e3).trans e4)⟩
def nb (n m : Int) : Str := ⟨(nbL n.toNat (bitsOf m).toNat).toArray⟩
theorem bits_lt {n m : Int} (h0 : 0 ≤ n) (h : n < m) : n.toNat < 2 ^ (bitsOf m).toNat := by
  unfold bitsOf Builtin.Int.intBits
  obtain ⟨k, hk⟩ := Int.eq_ofNat_of_zero_le (show 0 ≤ m - 1 by omega)
  rw [hk]
  have hn : n.toNat ≤ k := by omega
  by_cases c : k = 0
  · subst c
    have : n.toNat = 0 := by omega
    rw [this]
    decide
  · rw [if_neg (by simpa using c)]
    rw [Int.toNat_natCast, Int.natAbs_natCast]
    exact Nat.lt_of_le_of_lt hn Nat.lt_log2_self
theorem bits_le {m : Int} {b : Nat} (h1 : 1 ≤ m) (h : m ≤ 2 ^ b) : bitsOf m ≤ (b : Int) := by
  unfold bitsOf Builtin.Int.intBits
  obtain ⟨k, hk⟩ := Int.eq_ofNat_of_zero_le (show 0 ≤ m - 1 by omega)
  rw [hk]
  by_cases c : k = 0
  · subst c
    exact Int.natCast_nonneg b
  · rw [if_neg (by simpa using c)]
    have cast : (2 : Int) ^ b = ((2 ^ b : Nat) : Int) := by
      rw [Int.natCast_pow]
      rfl
    rw [cast] at h
    have := (Nat.log2_lt c).mpr (show k < 2 ^ b by omega)
    rw [Int.natAbs_natCast]
    omega
theorem zfill_is {n w : Nat} (hw : w ≠ 0) (h : n < 2 ^ w) : Txt.zfill (binS n) (w : Int) = ⟨(nbL n w).toArray⟩ := by
  have hl : (binS n).length = (bins n).length := by
    unfold binS bins Str.length
    simp
  have hle := bins_len (by omega) h
  have hpos := bins_pos n
  have hd := (bins_ok n).1
  unfold Txt.zfill nbL
  rw [if_neg hw, hl]
  by_cases c : (w : Int) ≤ ((bins n).length : Nat)
  · rw [if_pos c]
    have e : w - (bins n).length = 0 := by omega
    rw [e]
    rfl
  · rw [if_neg c, Int.toNat_natCast]
    have hb : binS n = ⟨(bins n).toArray⟩ := rfl
    rw [hb]
    unfold zfilled
    cases hc : bins n with
    | nil =>
      rw [hc] at hpos
      exact absurd hpos (by decide)
    | cons x r =>
      have hx := hd x (by rw [hc]; exact List.mem_cons_self ..)
      rcases hx with rfl | rfl
      · show Builtin.Str.padded _ _ 0 48 = _
        unfold Builtin.Str.padded
        simp
      · show Builtin.Str.padded _ _ 0 48 = _
        unfold Builtin.Str.padded
        simp
theorem pad_ok {n : Nat} (h : n ≤ 1000) : PadOk (n : Int) = true := by
  have k : ∀ m : Nat, m ≤ 1000 → PadOk (m : Int) = true := by decide +kernel
  exact k n h
theorem q_forS {z : Str} {te : TE} {tb tz : TS} {D : Ends} {σ : L2.St} {H : Hp} {j : Nat} (h : Ev te σ H (.str z)) (Pv : Nat → L2.St → Hp → Prop) (h0 : ∀ H1, Ex H H1 → Pv 0 σ H1)
    (hs : ∀ i c σ' H', z.cps.toList[i]? = some c → Pv i σ' H' → tb { D with nx := Pv (i + 1), ct := Pv (i + 1), bk := tz D } (σ'.set j (some (.str ⟨#[c]⟩))) H') (hd : ∀ σ' H', Pv z.cps.size σ' H' → tz D σ' H') :
    tSeq (tFor (iStr te) (gName j) tb) tz D σ H := by
  refine h H (Ex.refl H) _ fun H1 e1 => ⟨z, rfl, ?_⟩
  refine for_it (D := { D with nx := tz D }) (walk_str (z := z)) Pv (h0 H1 e1) (fun _ _ _ _ _ => trivial) ?_ hd
  intro i x σ' H2 H3 _ p y
  obtain ⟨rfl, c, hc, rfl⟩ := y
  refine hs i c σ' _ ?_ p
  rw [Array.getElem?_toList]
  exact hc
theorem one_code {c d : Nat} : (V.str ⟨#[c]⟩ = V.str ⟨#[d]⟩) ↔ c = d := by
  constructor
  · intro h
    have h2 := V.str.inj h
    have h3 := congrArg (fun s : Str => s.cps.toList) h2
    simpa using h3
  · intro h
    rw [h]
theorem str0 : Str.ofString "0" = (⟨#[48]⟩ : Str) := by decide +kernel
theorem str1 : Str.ofString "1" = (⟨#[49]⟩ : Str) := by decide +kernel
/-! ### more words for readings -/
section
variable {σ : L2.St} {H : Hp} {ta tb : TE}
theorem rcl_list {p : Addr} {xs : List V} (h : SqL K H p xs) : RCL (fun vs H Q => ∃ p ys, vs = [V.ref p] ∧ (SqL K H p ys ∨ SqT K H p ys) ∧ ∀ l, H l = none → Q (V.ref l) (upd H l (.lst ys))) [.ref p] H xs := fun H1 e Q q =>
  ⟨p, xs, rfl, .inl (ex_l e h), fun l hl => q l _ hl (Ex.new hl) upd_same⟩
theorem el_rep {xs : List V} {n : Nat} (h : EvL ta σ H xs) (hk : ∀ H1, Ex H H1 → Ev tb σ H1 (.int (n : Int))) (hz : xs.length * n ≤ 100000) (hn : n ≤ 100000) : EvL (tOp rRep ta tb) σ H (List.replicate n xs).flatten := fun H1 e Q q =>
  h H1 e _ fun p H2 hp e2 h2 => hk H2 (e.trans e2) H2 (Ex.refl H2) _ fun H3 e3 =>
    ⟨p, (n : Int), xs, rfl, rfl, e3 _ _ h2, by omega, by omega, by rw [Int.toNat_natCast]; exact sz_of hz, fun l hl => by
      rw [Int.toNat_natCast]
      exact q l _ (fresh_back (e2.trans e3) hl) ((e2.trans e3).trans (Ex.new hl)) upd_same⟩
theorem flat_one {n : Nat} {v : V} : (List.replicate n [v]).flatten = List.replicate n v := by
  induction n with
  | zero => rfl
  | succ n ih =>
    rw [List.replicate_succ, List.flatten_cons, ih]
    rfl
theorem map_rep {n : Nat} {z : Int} : (List.replicate n z).map V.int = List.replicate n (V.int z) := List.map_replicate
theorem el_catV {xs ys : List V} {b : Addr} (h : EvL ta σ H xs) (hb : ∀ H1, Ex H H1 → Ev tb σ H1 (.ref b)) (hy : H b = some (.lst ys)) (hz : xs.length + ys.length ≤ 100000) : EvL (tOp rCat ta tb) σ H (xs ++ ys) := fun H1 e Q q =>
  h H1 e _ fun p H2 hp e2 h2 => hb H2 (e.trans e2) H2 (Ex.refl H2) _ fun H3 e3 =>
    ⟨p, b, xs, ys, rfl, rfl, e3 _ _ h2, (((e.trans e2).trans e3)) _ _ hy, sz_of hz, fun l hl => q l _ (fresh_back (e2.trans e3) hl) ((e2.trans e3).trans (Ex.new hl)) upd_same⟩
theorem el_catL {xs ys : List V} (h : EvL ta σ H xs) (hb : EvL tb σ H ys) (hz : xs.length + ys.length ≤ 100000) : EvL (tOp rCat ta tb) σ H (xs ++ ys) := fun H1 e Q q =>
  h H1 e _ fun p H2 hp e2 h2 => hb H2 (e.trans e2) _ fun p2 H3 hp2 e3 h3 =>
    ⟨p, p2, xs, ys, rfl, rfl, e3 _ _ h2, h3, sz_of hz, fun l hl => q l _ (fresh_back (e2.trans e3) hl) ((e2.trans e3).trans (Ex.new hl)) upd_same⟩
theorem et_yes : EvT tYes σ H true := fun H1 _ _ q => q H1 (Ex.refl H1)
theorem given_all (n : Nat) (v : Nat → V) : given n (fun _ => true) v = (List.range n).map v := by
  unfold given
  rw [List.filter_eq_self.mpr fun _ _ => rfl]
/-- the data of a list of ints -/
theorem dp_ints : ∀ ns : List Int, DpAll K H (ns.map V.int) (ns.map PyData.int)
  | [] => .nil
  | n :: ns => .cons (.int n) (dp_ints ns)
theorem lay_ints : ∀ ns : List Int, PyData.canLayAll0 (ns.map PyData.int) = true
  | [] => by simp [PyData.canLayAll0]
  | n :: ns => by simp [PyData.canLayAll0, PyData.canLay0, lay_ints ns]
theorem deep_ints : ∀ ns : List Int, PyData.depthAll (ns.map PyData.int) = 0
  | [] => by simp [PyData.depthAll]
  | n :: ns => by simp [PyData.depthAll, PyData.depth, deep_ints ns]
theorem shaped_list_of_ints (ns : List Int) : SeqAt.shaped (.list (ns.map PyData.int)) = true := by
  show (PyData.canLay0 _ && decide (PyData.depth _ ≤ 64)) = true
  simp [PyData.canLay0, PyData.depth, lay_ints ns, deep_ints ns]
theorem rv_neInts {p q : Addr} {ns : List Int} (h1 : SqL K H p (ns.map V.int)) (h2 : SqL K H q (ns.map V.int)) : RV (rNeD K) (.ref p) (.ref q) H (.bl false) := fun H1 e Q k => by
  refine ⟨.list (ns.map PyData.int), .list (ns.map PyData.int), .lst (ex_l e h1) (dp_ints ns), .lst (ex_l e h2) (dp_ints ns), shaped_list_of_ints ns, shaped_list_of_ints ns, ?_⟩
  have r : PyData.eqv (.list (ns.map PyData.int)) (.list (ns.map PyData.int)) = true := SeqAt.eqv_refl _ (SeqAt.canLay_of_shaped (shaped_list_of_ints ns))
  rw [r]
  exact k H1 (Ex.refl H1)
end
theorem cut_to (xs : List V) (n : Nat) : cutV xs none (some (n : Int)) = xs.take n := by
  unfold cutV
  rw [HT.sIx_none, HT.sIx_nat]
  simp only [Nat.sub_zero, List.drop_zero]
  by_cases h : n ≤ xs.length
  · rw [Nat.min_eq_left h]
  · rw [Nat.min_eq_right (by omega), List.take_length, List.take_of_length_le (by omega)]
theorem cut_of (xs : List V) (a b : Nat) : ∃ k m, cutV xs (some (a : Int)) (some (b : Int)) = (xs.drop k).take m := by
  unfold cutV
  rw [HT.sIx_nat, HT.sIx_nat]
  exact ⟨_, _, rfl⟩
theorem at0_rep {z : Int} {n i : Nat} (h : i < n) : at0 (List.replicate n z) i = z := by
  unfold at0
  rw [List.getD_eq_getElem?_getD, List.getElem?_replicate, if_pos h]
  rfl
theorem at0_of_mem {ps : List Int} {x : Int} (h : x ∈ ps) : ∃ i, i < ps.length ∧ at0 ps i = x := by
  obtain ⟨i, hi, e⟩ := List.mem_iff_getElem.mp h
  refine ⟨i, hi, ?_⟩
  unfold at0
  rw [List.getD_eq_getElem?_getD, List.getElem?_eq_getElem hi]
  exact e
def restF (c : Int) (ss : List Int) : Nat → Int
  | 0 => c - 10 ^ 18
  | i + 1 => restF c ss i / at0 ss i
def digA (c : Int) (ss : List Int) (i : Nat) : Int := restF c ss i % at0 ss i
def sdF (c : Int) : Nat → Int
  | 0 => c % 2147483629
  | i + 1 => (sdF c i * 48271 + 974711 * i + 12345) % 2147483647
def twF (c : Int) (i : Nat) : Int := (sdF c (i + 1) * (sdF c (i + 1) / 65537 + 3)) % 2147483629
def digB (c : Int) (ss : List Int) (i : Nat) : Int := twF c i / 19 % at0 ss i
def dig (c : Int) (ss : List Int) (i : Nat) : Int := if 10 ^ 18 ≤ c then digA c ss i else digB c ss i
def digits (c : Int) (ss : List Int) : List Int := (List.range ss.length).map (dig c ss)
theorem digits_len (c : Int) (ss : List Int) : (digits c ss).length = ss.length := by
  unfold digits
  rw [List.length_map, List.length_range]
theorem at0_map {n i : Nat} (f : Nat → Int) (h : i < n) : at0 ((List.range n).map f) i = f i := by
  unfold at0
  rw [List.getD_eq_getElem?_getD, List.getElem?_map, List.getElem?_range h]
  rfl
theorem dig_bound {c : Int} {ss : List Int} {i : Nat} (h : 0 < at0 ss i) : 0 ≤ dig c ss i ∧ dig c ss i < at0 ss i := by
  unfold dig digA digB
  split
  · exact ⟨Int.emod_nonneg _ (by omega), Int.emod_lt_of_pos _ h⟩
  · exact ⟨Int.emod_nonneg _ (by omega), Int.emod_lt_of_pos _ h⟩
theorem digits_at {c : Int} {ss : List Int} {i : Nat} (hi : i < ss.length) (h : 0 < at0 ss i) : 0 ≤ at0 (digits c ss) i ∧ at0 (digits c ss) i < at0 ss i := by
  unfold digits
  rw [at0_map _ hi]
  exact dig_bound h
theorem sd_bound (c : Int) : ∀ i, 0 ≤ sdF c i ∧ sdF c i < 2147483647
  | 0 => by
    show 0 ≤ c % 2147483629 ∧ c % 2147483629 < 2147483647
    omega
  | i + 1 => by
    show 0 ≤ (sdF c i * 48271 + 974711 * i + 12345) % 2147483647 ∧ (sdF c i * 48271 + 974711 * i + 12345) % 2147483647 < 2147483647
    omega
theorem map_range_succ (f : Nat → Int) (n : Nat) : ((List.range (n + 1)).map f).map V.int = ((List.range n).map f).map V.int ++ [V.int (f n)] := by
  rw [List.range_succ, List.map_append, List.map_append]
  rfl
def spDigits (K : PySem.W.Frag) : Sp := fun vs H Q _ => ∃ (c : Int) (a : Addr) (ss : List Int), vs = [.int c, .ref a] ∧ SqL K H a (ss.map V.int) ∧ ss.length ≤ 1000 ∧ (∀ i, i < ss.length → 0 < at0 ss i ∧ at0 ss i < 18446744073709551616) ∧ RetL ((digits c ss).map V.int) H Q
def spWhole : Sp := fun vs H Q _ => ∃ n : Int, vs = [.int n] ∧ RetV (.bl true) H Q
def seedF (ns : List Int) : Nat → Int
  | 0 => 17
  | i + 1 => (seedF ns i * 31 + at0 ns i % 1000003) % 1000003
def cell (ns : List Int) (k : Int) : Int := if k < (ns.length : Int) then at0 ns k.toNat else ((seedF ns ns.length + 7) * (k + 3) * 69621) % 2147483647
def spCell (K : PySem.W.Frag) : Sp := fun vs H Q _ => ∃ (a : Addr) (ns : List Int) (k : Int), vs = [.ref a, .int k] ∧ SqL K H a (ns.map V.int) ∧ ns.length ≤ 63 ∧ (0 ≤ k ∧ k ≤ 1000) ∧ RetV (.int (cell ns k)) H Q
theorem sv_whole {n : Int} {H : Hp} : SpV spWhole ([V.int n] ++ []) H (.bl true) := fun _ _ _ q _ => ⟨n, rfl, q⟩
theorem sv_cell {a : Addr} {ns : List Int} {k : Int} {H : Hp} (hS : SqL K H a (ns.map V.int)) (h : ns.length ≤ 63) (hk : 0 ≤ k ∧ k ≤ 1000) : SpV (spCell K) ([V.ref a, V.int k] ++ []) H (.int (cell ns k)) := fun _ e _ q _ => ⟨a, ns, k, rfl, ex_l e hS, h, hk, q⟩
theorem sl_digits {c : Int} {a : Addr} {ss : List Int} {H : Hp} (hS : SqL K H a (ss.map V.int)) (hz : ss.length ≤ 1000) (hss : ∀ i, i < ss.length → 0 < at0 ss i ∧ at0 ss i < 18446744073709551616) : SpL (spDigits K) ([V.int c, V.ref a] ++ []) H ((digits c ss).map V.int) := fun _ e _ q _ => ⟨c, a, ss, rfl, ex_l e hS, hz, hss, q⟩
section
variable {σ : L2.St} {H : Hp} {ta tl : TE} {sp : Sp} {E : XK} {tz : TS} {D : Ends}
theorem el_digs {c : Int} {ss : List Int} (h : Ev ta σ H (.int c)) (hl : EvL tl σ H (ss.map V.int)) (hz : ss.length ≤ 1000) (hss : ∀ i, i < ss.length → 0 < at0 ss i ∧ at0 ss i < 18446744073709551616) : EvL (tCall (spDigits K) [] E (tCons ta (tCons tl tNil))) σ H ((digits c ss).map V.int) := fun H1 e Q q =>
  h H1 e _ fun H2 e2 => hl H2 (e.trans e2) _ fun p H3 hp e3 h3 => ⟨c, p, ss, rfl, sq_of h3, hz, hss, fun l H4 hl4 e4 h4 => q l H4 (fresh_back (e2.trans e3) hl4) ((e2.trans e3).trans e4) h4⟩
theorem ev_call2L {x z : V} {xs dvs : List V} (h : Ev ta σ H x) (hl : EvL tl σ H xs) (hs : ∀ p H1, Ex H H1 → H1 p = some (.lst xs) → SpV sp ([x, .ref p] ++ dvs) H1 z) : Ev (tCall sp dvs E (tCons ta (tCons tl tNil))) σ H z := fun H1 e Q q =>
  h H1 e _ fun H2 e2 => hl H2 (e.trans e2) _ fun p H3 hp e3 h3 => hs p H3 ((e.trans e2).trans e3) h3 H3 (Ex.refl H3) Q (fun H4 e4 => q H4 ((e2.trans e3).trans e4)) E
theorem ev_call1L {y z : V} {xs dvs : List V} (hl : EvL tl σ H xs) (h : ∀ H1, Ex H H1 → Ev ta σ H1 y) (hs : ∀ p H1, Ex H H1 → H1 p = some (.lst xs) → SpV sp ([.ref p, y] ++ dvs) H1 z) : Ev (tCall sp dvs E (tCons tl (tCons ta tNil))) σ H z := fun H1 e Q q =>
  hl H1 e _ fun p H2 hp e2 h2 => h H2 (e.trans e2) H2 (Ex.refl H2) _ fun H3 e3 => hs p H3 ((e.trans e2).trans e3) (e3 _ _ h2) H3 (Ex.refl H3) Q (fun H4 e4 => q H4 ((e2.trans e3).trans e4)) E
theorem ev_callL {z : V} {xs dvs : List V} (hl : EvL tl σ H xs) (hs : ∀ p H1, Ex H H1 → H1 p = some (.lst xs) → SpV sp ([.ref p] ++ dvs) H1 z) : Ev (tCall sp dvs E (tCons tl tNil)) σ H z := fun H1 e Q q =>
  hl H1 e _ fun p H2 hp e2 h2 => hs p H2 (e.trans e2) h2 H2 (Ex.refl H2) Q (fun H4 e4 => q H4 (e2.trans e4)) E
theorem el_slN {xs : List V} {t1 t2 : TO} {lo hi : Option Int} (h : EvL tl σ H xs) (h1 : ∀ H1, Ex H H1 → EvO t1 σ H1 lo) (h2 : ∀ H1, Ex H H1 → EvO t2 σ H1 hi) : EvL (tSl (rSlL K) tl t1 t2) σ H (cutV xs lo hi) := fun H1 e Q q =>
  h H1 e _ fun p H2 hp e2 hx => h1 H2 (e.trans e2) H2 (Ex.refl H2) _ fun H3 e3 => h2 H3 ((e.trans e2).trans e3) H3 (Ex.refl H3) _ fun H4 e4 =>
    ⟨p, xs, rfl, sq_of (e4 _ _ (e3 _ _ hx)), fun l hl => q l _ (fresh_back ((e2.trans e3).trans e4) hl) (((e2.trans e3).trans e4).trans (Ex.new hl)) upd_same⟩
theorem q_callD {ta : TA} {vs dvs : List V} {i : Nat} (h : EvA ta σ H vs) (k : ∀ H1, Ex H H1 → sp (vs ++ dvs) H1 (fun x H2 => tz D (σ.set i (some x)) H2) E) : tSeq (tAsg (tCall sp dvs E ta) (gName i)) tz D σ H := h H (Ex.refl H) _ k
end
def spLw : Sp := fun vs H Q _ => ∃ n : Int, vs = [.int n] ∧ 1 ≤ n ∧ n ≤ 2 ^ 2100 ∧ RetV (.int (bitsOf n)) H Q
theorem sv_lw {n : Int} {H : Hp} (h1 : 1 ≤ n) (h2 : n ≤ 2 ^ 2100) : SpV spLw ([V.int n] ++ []) H (.int (bitsOf n)) := fun _ _ _ q _ => ⟨n, rfl, h1, h2, q⟩
def spNb : Sp := fun vs H Q _ => ∃ n m : Int, vs = [.int n, .int m] ∧ 0 ≤ n ∧ n < m ∧ m ≤ 2 ^ 1000 ∧ RetV (.str (nb n m)) H Q
theorem sv_nb {n m : Int} {H : Hp} (h0 : 0 ≤ n) (h1 : n < m) (h2 : m ≤ 2 ^ 1000) : SpV spNb ([V.int n, V.int m] ++ []) H (.str (nb n m)) := fun _ _ _ q _ => ⟨n, m, rfl, h0, h1, h2, q⟩
def spWidth : Sp := fun vs H Q _ => ∃ n : Int, vs = [.int n] ∧ RetV (.int (bitsOf n)) H Q
theorem sv_width {n : Int} {H : Hp} : SpV spWidth ([V.int n] ++ []) H (.int (bitsOf n)) := fun _ _ _ q _ => ⟨n, rfl, q⟩
end
end Ver
namespace Ver
open PySem PySem.Spec PyProof.Rows L2 Evl
open PySem.Builtin PySem.Builtin.Str
/-! ### texts as lists of codes -/
abbrev tx (l : List Nat) : V := .str (SX.S l)
theorem tx_inj {a b : List Nat} (h : tx a = tx b) : a = b := SX.S_inj (V.str.inj h)
theorem tx_dec {a b : List Nat} : decide (tx a = tx b) = decide (a = b) := decide_eq_decide.mpr ⟨tx_inj, fun h => by rw [h]⟩
theorem stripLo_all {goes : Nat → Bool} {l : List Nat} (h : ∀ c ∈ l, goes c = true) : stripLo goes true (SX.S l) = l.length := by
  unfold stripLo
  rw [if_pos rfl]
  show (l.takeWhile goes).length = _
  rw [List.takeWhile_eq_filter_of_all h]
where
  List.takeWhile_eq_filter_of_all {goes : Nat → Bool} {l : List Nat} (h : ∀ c ∈ l, goes c = true) : l.takeWhile goes = l := by
    induction l with
    | nil => rfl
    | cons a r ih =>
      rw [List.takeWhile_cons, if_pos (h a (List.mem_cons_self ..)), ih fun c hc => h c (List.mem_cons_of_mem _ hc)]
theorem strip_to {goes : Nat → Bool} {r : Bool} {l : List Nat} (h : ∀ c ∈ l, goes c = true) : Txt.stripBy goes true r (SX.S l) = SX.S [] := by
  have hlo := stripLo_all h
  unfold Txt.stripBy stripSame stripped
  rw [hlo]
  have hhi : stripHi goes r (SX.S l) l.length = l.length := by
    unfold stripHi
    rw [SX.S_len]
    have e : (SX.S l).cps.toList.drop l.length = [] := List.drop_length
    rw [e]
    cases r <;> rfl
  rw [hhi, SX.S_len]
  cases l with
  | nil => rfl
  | cons a t =>
    rw [if_neg (by simp)]
    unfold strSub
    rw [← SX.S_tl ((⟨(SX.S (a :: t)).cps.extract (a :: t).length (a :: t).length⟩ : Str))]
    congr 1
    simp
theorem has_contains {l m : List Nat} (h : ∀ c ∈ l, c ∈ m) : ∀ c ∈ l, (SX.S m).cps.contains c = true := fun c hc => by
  have := h c hc
  simpa using this
theorem strip_chars {l m : List Nat} (h : ∀ c ∈ l, c ∈ m) : Txt.stripChars (SX.S l) (SX.S m) = SX.S [] := strip_to (has_contains h)
theorem lstrip_chars {l m : List Nat} (h : ∀ c ∈ l, c ∈ m) : Txt.lstripChars (SX.S l) (SX.S m) = SX.S [] := strip_to (has_contains h)
theorem occ_mem (s sub : Str) (hi lim : Nat) : ∀ (l : List Nat) (st : Array Nat × Nat) (k : Nat), k ∈ (forIn l st (StrLaws.occBody s sub hi lim)).run.fst.toList → k ∈ st.fst.toList ∨ (k + sub.length ≤ hi ∧ subAt s sub k = true)
  | [], st, k, h => .inl h
  | a :: l, st, k, h => by
    rw [List.forIn_cons] at h
    unfold StrLaws.occBody at h
    split at h
    · rename_i c
      rcases occ_mem s sub hi lim l _ k h with q | q
      · have q2 : k ∈ st.fst.toList ++ [a] := by simpa using q
        rcases List.mem_append.mp q2 with z | z
        · exact .inl z
        · rw [List.mem_singleton.mp z]
          exact .inr ⟨c.1.2, c.2⟩
      · exact .inr q
    · exact occ_mem s sub hi lim l _ k h
/-- the one place of a sign in a text without repeats -/
theorem index_one {l : List Nat} {c i : Nat} (nd : l.Nodup) (h : l[i]? = some c) : ∃ rest, occurrences (SX.S l) (SX.S [c]) 0 (SX.S l).length 1 = i :: rest := by
  have f := StrLaws.found_one (SX.S l) c
  have hm : c ∈ l := List.mem_of_getElem? h
  have e : (⟨#[c]⟩ : Str) = SX.S [c] := rfl
  rw [e] at f
  rw [show decide (c ∈ (SX.S l).cps.toList) = true from decide_eq_true hm] at f
  cases ho : occurrences (SX.S l) (SX.S [c]) 0 (SX.S l).length 1 with
  | nil =>
    rw [ho] at f
    cases f
  | cons j rest =>
    have hj : j ∈ occurrences (SX.S l) (SX.S [c]) 0 (SX.S l).length 1 := by
      rw [ho]
      exact List.mem_cons_self ..
    rw [StrLaws.occ_eq] at hj
    rcases occ_mem _ _ _ _ _ _ _ hj with z | z
    · cases z
    · have g := (StrLaws.subAt_one (SX.S l) c j).mp z
      have g2 : l[j]? = some c := g
      obtain ⟨h1, e1⟩ := List.getElem?_eq_some_iff.mp h
      obtain ⟨h2, e2⟩ := List.getElem?_eq_some_iff.mp g2
      have : i = j := (List.getElem_inj nd).mp (e1.trans e2.symm)
      subst this
      exact ⟨rest, rfl⟩
theorem starts_S {a b : List Nat} : Txt.startswith (SX.S a) (SX.S b) = decide (b <+: a) := by
  unfold Txt.startswith
  rw [StrLaws.subAt_eq, SX.S_len, SX.S_len]
  show (decide (0 + b.length ≤ a.length) && ((a.drop 0).take b.length == b)) = _
  rw [List.drop_zero, Nat.zero_add, Bool.eq_iff_iff, Bool.and_eq_true, decide_eq_true_eq, beq_iff_eq, decide_eq_true_eq]
  constructor
  · intro h
    rw [← h.2]
    exact List.take_prefix _ _
  · intro h
    exact ⟨h.length_le, (List.prefix_iff_eq_take.mp h).symm⟩
/-! ### text * n -/
theorem foldl_reps (l : List Nat) : ∀ (n : Nat) (acc : Array Nat), ((List.replicate n l.toArray).foldl (· ++ ·) acc).toList = acc.toList ++ (List.replicate n l).flatten
  | 0, acc => by simp
  | n + 1, acc => by
    rw [List.replicate_succ, List.foldl_cons, foldl_reps l n, List.replicate_succ, List.flatten_cons]
    simp
theorem mul_S {l : List Nat} {n : Nat} : Txt.mul (SX.S l) (n : Int) = SX.S (List.replicate n l).flatten := by
  unfold Txt.mul
  by_cases h : (n : Int) < 1
  · rw [if_pos h]
    have : n = 0 := by omega
    subst this
    rfl
  · rw [if_neg h]
    by_cases c : ((n : Int) == 1 || (SX.S l).length == 0) = true
    · rw [if_pos c]
      rw [SX.S_len, Bool.or_eq_true, beq_iff_eq, beq_iff_eq] at c
      rcases c with c | c
      · have : n = 1 := by omega
        subst this
        simp
      · have : l = [] := List.eq_nil_of_length_eq_zero c
        subst this
        have e : (List.replicate n ([] : List Nat)).flatten = [] := by simp
        rw [e]
    · rw [if_neg c, Int.toNat_natCast]
      have e := foldl_reps l n #[]
      rw [← SX.S_tl ((⟨(List.replicate n (SX.S l).cps).foldl (· ++ ·) #[]⟩ : Str))]
      congr 1
def rMulS : R2 := fun x y H Q => ∃ (l : List Nat) (n : Nat), x = tx l ∧ y = .int (n : Int) ∧ n ≤ 100000 ∧ l.length * n ≤ 100000 ∧ Q (tx (List.replicate n l).flatten) H
theorem mul_ok {l : List Nat} {n : Nat} (h1 : n ≤ 100000) (h2 : l.length * n ≤ 100000) : MulOk (SX.S l) (n : Int) := by
  refine ⟨?_, fun h c => ?_, fun h c => ?_⟩
  · have a : ¬ (n : Int) < -(2 ^ 63 : Int) := by omega
    have b : ¬ (n : Int) ≥ 2 ^ 63 := by omega
    rw [decide_eq_false a, decide_eq_false b]
    rfl
  · rw [SX.S_len]
    have hn : 0 < (n : Int) := by omega
    have e : ((l.length : Int) * n) ≤ 100000 := by
      rw [← Int.natCast_mul]
      omega
    have k : (l.length : Int) ≤ (2 ^ 63 - 1) / n := (Int.le_ediv_iff_mul_le hn).mpr (by omega)
    omega
  · rw [SX.S_len, Int.toNat_natCast]
    unfold tooLong
    have := sz_of h2
    exact decide_eq_false (by omega)
theorem op_mulS {X : Cx} : OpR X (binaryOp .Mult) rMulS := by
  intro pins s σ H x y v u Q I rx ry h
  obtain ⟨l, n, rfl, rfl, h1, h2, q⟩ := h
  obtain ⟨t, rfl⟩ := rx
  obtain ⟨t', rfl⟩ := ry
  refine SB.mul (mul_ok h1 h2) fun t2 k => ?_
  rw [mul_S]
  exact ⟨tx _, H, I.tok _, ⟨_, rfl⟩, q⟩
/-! ### text[::-1] -/
theorem pe_revS {X : Cx} {e : Expr} {te : TE} {k : Nat} {p1 p2 p3 pos : Pos} (he : PE X e te) : PE X (.Subscript e (.Slice none none (some (.UnaryOp .USub (.Constant (.int 1) k p1) p2)) p3) pos) (tRevS te) := by
  refine ⟨fun pins s σ H Q I h => ?_⟩
  refine Subscript_ (thn (he.run pins s σ H _ I h) fun v s1 ⟨x, H1, I1, r1, q1⟩ => ?_)
  obtain ⟨z, ex, hz, q⟩ := q1
  subst ex
  obtain ⟨t, rfl⟩ := r1
  have hst : PO X (some (.UnaryOp .USub (.Constant (.int 1) k p1) p2)) (tPart (tUn (rU fun i => .int (-i)) (tC (.int 1)))) := po_some (pe_un un_neg pe_int)
  refine wpAny_Slice (thn (po_none.run pins s1 σ H1 (fun o H2 => o = none ∧ H2 = H1) I1 ⟨rfl, rfl⟩) fun vl s2 ⟨l, H2, I2, pl, el, e2⟩ => ?_)
  subst el e2
  refine thn (po_none.run pins s2 σ H2 (fun o H3 => o = none ∧ H3 = H2) I2 ⟨rfl, rfl⟩) fun vu s3 ⟨u, H3, I3, pu, eu, e3⟩ => ?_
  subst eu e3
  refine thn (hst.run pins s3 σ H3 (fun o H4 => o = some (-1) ∧ H4 = H3) I3 ⟨1, rfl, -1, rfl, rfl, rfl⟩) fun vs s4 ⟨o, H4, I4, ps, eo, e4⟩ => ?_
  subst eo e4
  have I5 : Inv X pins σ H4 { s4 with heap := s4.heap.push { cls := .type "slice", data := .fields #[vl, vu, vs] } } := I4.kept (t' := s4.toks) fun b ob q => Heap.get?_push_of_some _ q
  obtain ⟨l, rfl, hl⟩ := IsPart.raw pl
  obtain ⟨u, rfl, hu⟩ := IsPart.raw pu
  obtain ⟨w, rfl, hw⟩ := IsPart.raw ps
  cases l with
  | some l => cases hl
  | none =>
  cases u with
  | some u => cases hu
  | none =>
  cases w with
  | none => cases hw
  | some w =>
  obtain ⟨w1, w2⟩ := w
  have ew : w1 = -1 := by
    have : some w1 = some (-1 : Int) := hw
    exact Option.some.inj this
  subst ew
  refine tail_any (ops := [.ref s4.heap.objs.size, .str z t]) (typeIs_str _ _ _) F.slot_str_getitem.lookup ?_ (by with_unfolding_all rfl)
  refine wpAny_getItem_str_slice (l := none) (u := none) (st := some (-1, w2)) ⟨_, Heap.get?_push_size _ rfl, rfl, rfl⟩ rfl ?_
  have hc : ¬ ((((some ((-1 : Int), w2)).map (·.1)).getD 1 == 1 && (slicePicked z none none (some (-1, w2))).length == z.length) = true) := by
    have : (((some ((-1 : Int), w2)).map (·.1)).getD 1 == 1) = false := rfl
    rw [this]
    simp
  have hl := step_rev_list z w2
  have hn := step_rev_len z w2
  unfold Txt.sliceBy at hl hn
  rw [if_neg hc] at hl hn
  unfold sliceMade
  rw [if_neg hc]
  refine ⟨?_, .str _, H4, I5.tok _, ⟨_, rfl⟩, q _ ?_ (Nat.le_of_eq hn)⟩
  · show (⟨((slicePicked z none none (some (-1, w2))).filterMap (z.cps[·]?)).toArray⟩ : Str).length ≤ sizeLine
    rw [hn]
    exact hz
  · intro c hcm
    rw [hl] at hcm
    obtain ⟨k, hk, rfl⟩ := List.mem_map.mp hcm
    have hk' := List.mem_range.mp hk
    have hlt : z.length - 1 - k < z.cps.size := by
      have : z.length = z.cps.size := rfl
      omega
    have e : z.cps.getD (z.length - 1 - k) 0 = z.cps[z.length - 1 - k] := by simp [Array.getD, hlt]
    rw [e]
    simp
end Ver
namespace Ver
/-! ### numbers of a list in a stretch -/
theorem card_le : ∀ (n a : Nat) (T : List Nat), T.Nodup → (∀ x ∈ T, a ≤ x ∧ x < a + n) → T.length ≤ n
  | 0, a, T, _, h => by
    cases T with
    | nil => exact Nat.le_refl 0
    | cons x r =>
      have := h x (List.mem_cons_self ..)
      omega
  | n + 1, a, T, nd, h => by
    by_cases hm : a + n ∈ T
    · have e := List.length_erase_of_mem hm
      have ih := card_le n a (T.erase (a + n)) (nd.erase _) fun x hx => by
        have h1 := h x (List.mem_of_mem_erase hx)
        have h2 : x ≠ a + n := fun q => by
          rw [q] at hx
          exact nd.not_mem_erase hx
        omega
      omega
    · have ih := card_le n a T nd fun x hx => by
        have h1 := h x hx
        have h2 : x ≠ a + n := fun q => hm (q ▸ hx)
        omega
      omega
/-- how many of T are below v -/
def bel (T : List Nat) (v : Nat) : Nat := T.countP (fun x => decide (x < v))
theorem bel_le {T : List Nat} (nd : T.Nodup) (v : Nat) : bel T v ≤ v := by
  unfold bel
  rw [List.countP_eq_length_filter]
  have := card_le v 0 (T.filter fun x => decide (x < v)) (nd.filter _) fun x hx => by
    have := of_decide_eq_true (List.mem_filter.mp hx).2
    omega
  exact this
theorem bel_step {T : List Nat} (nd : T.Nodup) {x y : Nat} (h : x < y) (hx : x ∉ T) : bel T y ≤ bel T x + (y - x - 1) := by
  have e : bel T y = bel T x + (T.filter fun z => decide (x < z ∧ z < y)).length := by
    unfold bel
    rw [← List.countP_eq_length_filter]
    clear nd
    induction T with
    | nil => rfl
    | cons a r ih =>
      have ih := ih fun q => hx (List.mem_cons_of_mem _ q)
      have ha : a ≠ x := fun q => hx (q ▸ List.mem_cons_self ..)
      rw [List.countP_cons, List.countP_cons, List.countP_cons, ih]
      by_cases c1 : a < x
      · rw [if_pos (decide_eq_true (show a < y by omega)), if_pos (decide_eq_true c1), if_neg (by simp; omega)]
        omega
      · by_cases c2 : a < y
        · rw [if_pos (decide_eq_true c2), if_neg (by simpa using c1), if_pos (decide_eq_true (show x < a ∧ a < y by omega))]
          omega
        · rw [if_neg (by simpa using c2), if_neg (by simpa using c1), if_neg (by simp; omega)]
          omega
  have := card_le (y - x - 1) (x + 1) (T.filter fun z => decide (x < z ∧ z < y)) (nd.filter _) fun z hz => by
    have := of_decide_eq_true (List.mem_filter.mp hz).2
    omega
  omega
/-- the free number of x among those that T leaves is below that of y -/
theorem bel_lt {T : List Nat} (nd : T.Nodup) {x y : Nat} (h : x < y) (hx : x ∉ T) : x - bel T x < y - bel T y := by
  have h1 := bel_step nd h hx
  have h2 := bel_le nd x
  omega
theorem bel_all {T : List Nat} {v : Nat} (h : ∀ x ∈ T, x < v) : bel T v = T.length := by
  unfold bel
  exact List.countP_eq_length.mpr fun x hx => decide_eq_true (h x hx)
/-- x is among the free ones below v -/
theorem bel_room {T : List Nat} (nd : T.Nodup) {x v : Nat} (h : x < v) (hx : x ∉ T) (hT : ∀ z ∈ T, z < v) : x - bel T x < v - T.length := by
  have := bel_lt nd h hx
  rw [bel_all hT] at this
  exact this
/-! ### rows, pieces -/
abbrev Rw := List (Nat × Nat)
def pcs (rs : Rw) : List (List Nat) := rs.foldl (fun ps r => ps ++ [ps.getD r.1 [] ++ [r.2]]) [[]]
theorem pcs_snoc (rs : Rw) (r : Nat × Nat) : pcs (rs ++ [r]) = pcs rs ++ [(pcs rs).getD r.1 [] ++ [r.2]] := by
  unfold pcs
  rw [List.foldl_append]
  rfl
theorem snoc_ind {α : Type} {M : List α → Prop} (h0 : M []) (hs : ∀ l a, M l → M (l ++ [a])) (l : List α) : M l := by
  have h : ∀ n (l : List α), l.length = n → M l := by
    intro n
    induction n with
    | zero =>
      intro l hl
      rw [List.eq_nil_of_length_eq_zero hl]
      exact h0
    | succ n ih =>
      intro l hl
      have hne : l ≠ [] := fun q => by rw [q] at hl; cases hl
      have e := (List.dropLast_concat_getLast hne).symm
      rw [e]
      refine hs _ _ (ih _ ?_)
      rw [List.length_dropLast, hl]
      rfl
  exact h _ l rfl
theorem pcs_len (rs : Rw) : (pcs rs).length = rs.length + 1 := by
  induction rs using snoc_ind with
  | h0 => rfl
  | hs l a ih => rw [pcs_snoc, List.length_append, ih, List.length_append]; rfl
structure RowsOk (al : List Nat) (rs : Rw) : Prop where
  low : ∀ (i p c : Nat), rs[i]? = some (p, c) → p ≤ i ∧ c ∈ al
  nd : rs.Nodup
theorem RowsOk.init {al : List Nat} {rs : Rw} {r : Nat × Nat} (h : RowsOk al (rs ++ [r])) : RowsOk al rs := by
  refine ⟨fun i p c e => h.low i p c ?_, (List.nodup_append.mp h.nd).1⟩
  rw [List.getElem?_append_left (List.getElem?_eq_some_iff.mp e).1]
  exact e
theorem RowsOk.last {al : List Nat} {rs : Rw} {p c : Nat} (h : RowsOk al (rs ++ [(p, c)])) : p ≤ rs.length ∧ c ∈ al ∧ (p, c) ∉ rs := by
  have h1 := h.low rs.length p c (by simp)
  refine ⟨h1.1, h1.2, fun hm => ?_⟩
  have := (List.nodup_append.mp h.nd).2.2 (p, c) hm (p, c) (List.mem_singleton.mpr rfl)
  exact this rfl
theorem RowsOk.snoc {al : List Nat} {rs : Rw} {p c : Nat} (h : RowsOk al rs) (h1 : p ≤ rs.length) (h2 : c ∈ al) (h3 : (p, c) ∉ rs) : RowsOk al (rs ++ [(p, c)]) := by
  refine ⟨fun i q d e => ?_, List.nodup_append.mpr ⟨h.nd, by simp, ?_⟩⟩
  · by_cases hi : i < rs.length
    · rw [List.getElem?_append_left hi] at e
      exact h.low i q d e
    · rw [List.getElem?_append_right (by omega)] at e
      have hz : i - rs.length = 0 := by
        have := (List.getElem?_eq_some_iff.mp e).1
        simp at this
        omega
      rw [hz] at e
      cases e
      exact ⟨by omega, h2⟩
  · intro a ha b hb
    rw [List.mem_singleton.mp hb]
    intro q
    exact h3 (q ▸ ha)
theorem getD_mem {l : List (List Nat)} {i : Nat} (h : i < l.length) : l.getD i [] ∈ l := by
  rw [List.getD_eq_getElem?_getD, List.getElem?_eq_getElem h]
  exact List.getElem_mem h
theorem getD_inj {l : List (List Nat)} (nd : l.Nodup) {i j : Nat} (hi : i < l.length) (hj : j < l.length) (h : l.getD i [] = l.getD j []) : i = j := by
  rw [List.getD_eq_getElem?_getD, List.getD_eq_getElem?_getD, List.getElem?_eq_getElem hi, List.getElem?_eq_getElem hj] at h
  exact (List.getElem_inj nd).mp h
theorem idx_getD {l : List (List Nat)} (nd : l.Nodup) {i : Nat} (h : i < l.length) : l.idxOf (l.getD i []) = i := by
  have hm := getD_mem h
  have h1 := List.idxOf_lt_length_of_mem hm
  refine getD_inj nd h1 h ?_
  rw [List.getD_eq_getElem?_getD, List.getElem?_eq_getElem h1]
  show l[l.idxOf (l.getD i [])] = _
  exact List.getElem_idxOf h1
theorem pcs_zero (rs : Rw) : (pcs rs).getD 0 [] = [] := by
  induction rs using snoc_ind with
  | h0 => rfl
  | hs l a ih =>
    rw [pcs_snoc, List.getD_eq_getElem?_getD, List.getElem?_append_left (by rw [pcs_len]; omega), ← List.getD_eq_getElem?_getD]
    exact ih
/-- the piece of parent p with sign c is there just where the row is, and one place further on -/
theorem pcs_facts {al : List Nat} : ∀ rs : Rw, RowsOk al rs → (pcs rs).Nodup ∧ (∀ (i p c : Nat), rs[i]? = some (p, c) → (pcs rs).getD (i + 1) [] = (pcs rs).getD p [] ++ [c]) ∧
    ∀ (p c : Nat), p ≤ rs.length → ((pcs rs).getD p [] ++ [c] ∈ pcs rs ↔ (p, c) ∈ rs) := by
  intro rs
  induction rs using snoc_ind with
  | h0 =>
    intro _
    refine ⟨by simp [pcs], fun i p c h => by simp at h, fun p c hp => ?_⟩
    simp [pcs]
  | hs rs a ih =>
    intro ok
    obtain ⟨q, d⟩ := a
    obtain ⟨nd, rows, ex⟩ := ih ok.init
    obtain ⟨hq, _, hn⟩ := ok.last
    have hnew : (pcs rs).getD q [] ++ [d] ∉ pcs rs := fun h => hn ((ex q d hq).mp h)
    have hl := pcs_len rs
    have nd2 : (pcs (rs ++ [(q, d)])).Nodup := by
      rw [pcs_snoc]
      exact List.nodup_append.mpr ⟨nd, by simp, fun x hx y hy e => hnew (by rw [List.mem_singleton.mp hy] at e; exact e ▸ hx)⟩
    have old : ∀ k, k ≤ rs.length → (pcs (rs ++ [(q, d)])).getD k [] = (pcs rs).getD k [] := fun k hk => by
      rw [pcs_snoc, List.getD_eq_getElem?_getD, List.getElem?_append_left (by omega), ← List.getD_eq_getElem?_getD]
    have new : (pcs (rs ++ [(q, d)])).getD (rs.length + 1) [] = (pcs rs).getD q [] ++ [d] := by
      rw [pcs_snoc, List.getD_eq_getElem?_getD, List.getElem?_append_right (by omega), hl]
      simp
    refine ⟨nd2, fun i p c h => ?_, fun p c hp => ?_⟩
    · by_cases hi : i < rs.length
      · rw [List.getElem?_append_left hi] at h
        have hp := (ok.init.low i p c h).1
        rw [old _ (by omega), old _ (by omega)]
        exact rows i p c h
      · have hi2 : i = rs.length := by
          have := (List.getElem?_eq_some_iff.mp h).1
          simp at this
          omega
        subst hi2
        have e : (q, d) = (p, c) := by simpa using h
        cases e
        rw [new, old _ hq]
    · by_cases hp2 : p ≤ rs.length
      · rw [old _ hp2, pcs_snoc, List.mem_append, List.mem_append, ex p c hp2, List.mem_singleton, List.mem_singleton]
        refine or_congr Iff.rfl ⟨fun h => ?_, fun h => ?_⟩
        · obtain ⟨e1, e2⟩ := List.append_inj' h rfl
          have := getD_inj nd (by omega) (by omega) e1
          cases e2
          rw [this]
        · cases h
          rfl
      · have e : p = rs.length + 1 := by
          rw [List.length_append] at hp
          simp at hp
          omega
        subst e
        rw [new]
        constructor
        · intro h
          -- a piece one longer than the last one
          exfalso
          rw [pcs_snoc, List.mem_append, List.mem_singleton] at h
          rcases h with h | h
          · -- its beginning would be a piece of the old ones
            obtain ⟨j, hj, ej⟩ := List.mem_iff_getElem.mp h
            cases j with
            | zero =>
              have e0 : (pcs rs)[0] = [] := by
                have h0 : (pcs rs).getD 0 [] = [] := pcs_zero rs
                rw [List.getD_eq_getElem?_getD, List.getElem?_eq_getElem hj] at h0
                exact h0
              rw [e0] at ej
              simp at ej
            | succ j =>
              have hj2 : j < rs.length := by omega
              have hg : rs[j]? = some ((rs[j]).1, (rs[j]).2) := List.getElem?_eq_getElem hj2
              have hrow := rows j _ _ hg
              rw [List.getD_eq_getElem?_getD, List.getElem?_eq_getElem hj] at hrow
              have e3 : (pcs rs)[j + 1] = (pcs rs).getD (rs[j]).1 [] ++ [(rs[j]).2] := hrow
              rw [e3] at ej
              obtain ⟨e1, _⟩ := List.append_inj' ej rfl
              have hp' := (ok.init.low j _ _ hg).1
              refine hnew ?_
              rw [← e1]
              exact getD_mem (by omega)
          · have := congrArg List.length h
            simp at this
        · intro h
          exfalso
          rcases List.mem_append.mp h with h | h
          · obtain ⟨j, hj⟩ := List.mem_iff_getElem?.mp h
            have := (ok.init.low j _ _ hj).1
            have := (List.getElem?_eq_some_iff.mp hj).1
            omega
          · have h2 := List.mem_singleton.mp h
            have : rs.length + 1 = q := congrArg Prod.fst h2
            omega
end Ver
namespace Ver
/-! ### the cut -/
def cutStep (s : Rw × Nat) (c : Nat) : Rw × Nat := if (s.2, c) ∈ s.1 then (s.1, s.1.idxOf (s.2, c) + 1) else (s.1 ++ [(s.2, c)], 0)
def cutW (w : List Nat) : Rw × Nat := w.foldl cutStep ([], 0)
theorem cut_snoc (w : List Nat) (c : Nat) : cutW (w ++ [c]) = cutStep (cutW w) c := by
  unfold cutW
  rw [List.foldl_append]
  rfl
structure CutOk (al w : List Nat) (s : Rw × Nat) : Prop where
  ok : RowsOk al s.1
  low : s.2 ≤ s.1.length
  word : w = (pcs s.1).flatten ++ (pcs s.1).getD s.2 []
  few : s.1.length ≤ w.length
theorem idx_row {rs : Rw} {r : Nat × Nat} (h : r ∈ rs) : rs.idxOf r < rs.length ∧ rs[rs.idxOf r]? = some r := by
  have h1 := List.idxOf_lt_length_of_mem h
  refine ⟨h1, ?_⟩
  rw [List.getElem?_eq_getElem h1, List.getElem_idxOf h1]
theorem cut_ok {al : List Nat} (w : List Nat) (h : ∀ c ∈ w, c ∈ al) : CutOk al w (cutW w) := by
  induction w using snoc_ind with
  | h0 => exact ⟨⟨fun i p c h => by simp [cutW] at h, List.nodup_nil⟩, Nat.le_refl 0, by simp [cutW, pcs], Nat.le_refl 0⟩
  | hs w c ih0 =>
    have ih := ih0 fun d hd => h d (List.mem_append_left _ hd)
    have hc : c ∈ al := h c (List.mem_append_right _ (List.mem_singleton.mpr rfl))
    rw [cut_snoc]
    generalize cutW w = s at ih ⊢
    obtain ⟨rs, p⟩ := s
    obtain ⟨ok, low, word, few⟩ := ih
    have low : p ≤ rs.length := low
    obtain ⟨nd, rows, ex⟩ := pcs_facts rs ok
    have word : w = (pcs rs).flatten ++ (pcs rs).getD p [] := word
    have few : rs.length ≤ w.length := few
    unfold cutStep
    by_cases hm : (p, c) ∈ rs
    · rw [if_pos hm]
      obtain ⟨h1, h2⟩ := idx_row hm
      refine ⟨ok, h1, ?_, ?_⟩
      · show w ++ [c] = (pcs rs).flatten ++ (pcs rs).getD (rs.idxOf (p, c) + 1) []
        rw [rows _ p c h2, word, List.append_assoc]
      · show rs.length ≤ (w ++ [c]).length
        rw [List.length_append]
        omega
    · rw [if_neg hm]
      refine ⟨ok.snoc low hc hm, Nat.zero_le _, ?_, ?_⟩
      · show w ++ [c] = (pcs (rs ++ [(p, c)])).flatten ++ (pcs (rs ++ [(p, c)])).getD 0 []
        rw [pcs_zero, pcs_snoc, List.flatten_append, word]
        simp
      · show (rs ++ [(p, c)]).length ≤ (w ++ [c]).length
        rw [List.length_append, List.length_append]
        show rs.length + 1 ≤ w.length + 1
        omega
theorem cut_inj {al w v : List Nat} (hw : ∀ c ∈ w, c ∈ al) (hv : ∀ c ∈ v, c ∈ al) (h : cutW w = cutW v) : w = v := by
  rw [(cut_ok w hw).word, (cut_ok v hv).word, h]
/-! ### places -/
/-- an alphabet: its signs ascend -/
structure Alf (al : List Nat) : Prop where
  asc : al.Pairwise (· < ·)
  pos : 1 ≤ al.length
  six : al.length ≤ 6
  let' : ∀ c ∈ al, (48 ≤ c ∧ c ≤ 57) ∨ (97 ≤ c ∧ c ≤ 122)
theorem Alf.nd {al : List Nat} (h : Alf al) : al.Nodup := h.asc.imp fun h => Nat.ne_of_lt h
theorem idx_lt {al : List Nat} (h : al.Pairwise (· < ·)) {c d : Nat} (hc : c ∈ al) (hd : d ∈ al) : c < d ↔ al.idxOf c < al.idxOf d := by
  have h1 := List.idxOf_lt_length_of_mem hc
  have h2 := List.idxOf_lt_length_of_mem hd
  have e1 := List.getElem_idxOf h1
  have e2 := List.getElem_idxOf h2
  have key : ∀ i j (hi : i < al.length) (hj : j < al.length), i < j → al[i] < al[j] := fun i j hi hj hij => List.pairwise_iff_getElem.mp h i j hi hj hij
  constructor
  · intro hcd
    rcases Nat.lt_trichotomy (al.idxOf c) (al.idxOf d) with q | q | q
    · exact q
    · have : c = d := by rw [← e1, ← e2]; simp only [q]
      omega
    · have := key _ _ h2 h1 q
      rw [e1, e2] at this
      omega
  · intro q
    have := key _ _ h1 h2 q
    rw [e1, e2] at this
    exact this
def plc (al : List Nat) (r : Nat × Nat) : Nat := r.1 * al.length + al.idxOf r.2
theorem plc_lt {al : List Nat} {p c k : Nat} (hc : c ∈ al) (hp : p ≤ k) : plc al (p, c) < (k + 1) * al.length := by
  have h1 := List.idxOf_lt_length_of_mem hc
  have h2 : p * al.length ≤ k * al.length := Nat.mul_le_mul_right _ hp
  unfold plc
  rw [Nat.add_mul, Nat.one_mul]
  show p * al.length + al.idxOf c < _
  omega
def rlt (a b : Nat × Nat) : Prop := a.1 < b.1 ∨ a.1 = b.1 ∧ a.2 < b.2
theorem plc_mono {al : List Nat} (h : al.Pairwise (· < ·)) {a b : Nat × Nat} (ha : a.2 ∈ al) (hb : b.2 ∈ al) (hl : rlt a b) : plc al a < plc al b := by
  rcases hl with hl | ⟨h1, h2⟩
  · have h1 := plc_lt (p := a.1) ha (Nat.le_refl a.1)
    have h2 : (a.1 + 1) * al.length ≤ b.1 * al.length := Nat.mul_le_mul_right _ hl
    unfold plc at h1 ⊢
    show a.1 * al.length + al.idxOf a.2 < b.1 * al.length + al.idxOf b.2
    have h1 : a.1 * al.length + al.idxOf a.2 < (a.1 + 1) * al.length := h1
    omega
  · have := (idx_lt h ha hb).mp h2
    unfold plc
    rw [h1]
    omega
theorem rlt_tri {a b : Nat × Nat} (h : a ≠ b) : rlt a b ∨ rlt b a := by
  obtain ⟨a1, a2⟩ := a
  obtain ⟨b1, b2⟩ := b
  unfold rlt
  rcases Nat.lt_trichotomy a1 b1 with q | q | q
  · exact .inl (.inl q)
  · subst q
    rcases Nat.lt_trichotomy a2 b2 with q | q | q
    · exact .inl (.inr ⟨rfl, q⟩)
    · subst q
      exact absurd rfl h
    · exact .inr (.inr ⟨rfl, q⟩)
  · exact .inr (.inl q)
theorem plc_inj {al : List Nat} (h : al.Pairwise (· < ·)) {a b : Nat × Nat} (ha : a.2 ∈ al) (hb : b.2 ∈ al) (e : plc al a = plc al b) : a = b := by
  refine Classical.byContradiction fun hn => ?_
  rcases rlt_tri hn with q | q
  · have := plc_mono h ha hb q
    omega
  · have := plc_mono h hb ha q
    omega
def rowAt (rs : Rw) (k : Nat) : Nat × Nat := rs.getD k (0, 0)
theorem rowAt_get {rs : Rw} {k : Nat} (h : k < rs.length) : rs[k]? = some (rowAt rs k) := by
  unfold rowAt
  rw [List.getD_eq_getElem?_getD, List.getElem?_eq_getElem h]
  rfl
def pls (al : List Nat) (rs : Rw) : List Nat := rs.map (plc al)
def pnum (al : List Nat) (rs : Rw) (k : Nat) : Nat := plc al (rowAt rs k) - bel (pls al (rs.take k)) (plc al (rowAt rs k))
theorem row_ok {al : List Nat} {rs : Rw} (h : RowsOk al rs) {k : Nat} (hk : k < rs.length) : (rowAt rs k).1 ≤ k ∧ (rowAt rs k).2 ∈ al := h.low k _ _ (rowAt_get hk)
theorem RowsOk.take {al : List Nat} {rs : Rw} (h : RowsOk al rs) (k : Nat) : RowsOk al (rs.take k) := by
  refine ⟨fun i p c e => h.low i p c ?_, h.nd.sublist (List.take_sublist k rs)⟩
  rw [List.getElem?_take] at e
  split at e
  · exact e
  · cases e
theorem mem_row {al : List Nat} {rs : Rw} (h : RowsOk al rs) {r : Nat × Nat} (hr : r ∈ rs) : r.1 + 1 ≤ rs.length ∧ r.2 ∈ al := by
  obtain ⟨j, hj⟩ := List.mem_iff_getElem?.mp hr
  have h1 := h.low j r.1 r.2 hj
  have h2 := (List.getElem?_eq_some_iff.mp hj).1
  exact ⟨by omega, h1.2⟩
theorem pls_nd {al : List Nat} (ha : al.Pairwise (· < ·)) {rs : Rw} (h : RowsOk al rs) : (pls al rs).Nodup := by
  unfold pls
  refine List.pairwise_map.mpr ?_
  have h2 := h.nd
  refine List.Pairwise.imp_of_mem (fun {a b} ma mb hne e => hne ?_) h2
  exact plc_inj ha (mem_row h ma).2 (mem_row h mb).2 e
theorem pls_room {al : List Nat} {rs : Rw} (h : RowsOk al rs) : ∀ z ∈ pls al rs, z < rs.length * al.length := fun z hz => by
  obtain ⟨r, hr, rfl⟩ := List.mem_map.mp hz
  obtain ⟨h1, h2⟩ := mem_row h hr
  have := plc_lt (p := r.1) (k := r.1) h2 (Nat.le_refl _)
  exact Nat.lt_of_lt_of_le this (Nat.mul_le_mul_right _ h1)
theorem free_row {al : List Nat} (ha : al.Pairwise (· < ·)) {rs : Rw} (h : RowsOk al rs) {k : Nat} (hk : k < rs.length) : plc al (rowAt rs k) ∉ pls al (rs.take k) := fun hm => by
  obtain ⟨r, hr, e⟩ := List.mem_map.mp hm
  have h1 := (mem_row (h.take k) hr).2
  have e2 := plc_inj ha h1 (row_ok h hk).2 e
  obtain ⟨j, hj⟩ := List.mem_iff_getElem?.mp hr
  have hjk : j < k := by
    have := (List.getElem?_eq_some_iff.mp hj).1
    rw [List.length_take] at this
    omega
  rw [List.getElem?_take, if_pos hjk] at hj
  have hg := rowAt_get hk
  rw [e2] at hj
  obtain ⟨a1, b1⟩ := List.getElem?_eq_some_iff.mp hj
  obtain ⟨a2, b2⟩ := List.getElem?_eq_some_iff.mp hg
  have := (List.getElem_inj h.nd).mp (b1.trans b2.symm)
  omega
def opt (al : List Nat) (k : Nat) : Nat := (k + 1) * al.length - k + 1
theorem pnum_lt {al : List Nat} (ha : al.Pairwise (· < ·)) (hp : 1 ≤ al.length) {rs : Rw} (h : RowsOk al rs) {k : Nat} (hk : k < rs.length) : 1 + pnum al rs k < opt al k := by
  have hr := row_ok h hk
  have hl := plc_lt (p := (rowAt rs k).1) hr.2 hr.1
  have hn := pls_nd ha (h.take k)
  have hf := free_row ha h hk
  have hT : ∀ z ∈ pls al (rs.take k), z < (k + 1) * al.length := fun z hz => by
    have h1 := pls_room (h.take k) z hz
    rw [List.length_take, Nat.min_eq_left (by omega)] at h1
    exact Nat.lt_of_lt_of_le h1 (Nat.mul_le_mul_right _ (by omega))
  have key := bel_room hn (x := plc al (rowAt rs k)) hl hf hT
  have e : (pls al (rs.take k)).length = k := by
    unfold pls
    rw [List.length_map, List.length_take]
    omega
  rw [e] at key
  unfold pnum opt
  omega
/-! ### the numbers of the block -/
def num (al : List Nat) (rs : Rw) (k : Nat) : Nat := if k < rs.length then 1 + pnum al rs k else 0
theorem opt_two {al : List Nat} (hp : 1 ≤ al.length) (k : Nat) : 2 ≤ opt al k := by
  unfold opt
  have : (k + 1) * 1 ≤ (k + 1) * al.length := Nat.mul_le_mul_left _ hp
  omega
theorem num_lt {al : List Nat} (ha : al.Pairwise (· < ·)) (hp : 1 ≤ al.length) {rs : Rw} (h : RowsOk al rs) {k : Nat} : num al rs k < opt al k := by
  unfold num
  split
  · exact pnum_lt ha hp h (by assumption)
  · have := opt_two hp k
    omega
theorem num_same {al : List Nat} {rs rt : Rw} {s : Nat} (e : rs.take s = rt.take s) (h1 : s ≤ rs.length) (h2 : s ≤ rt.length) {k : Nat} (hk : k < s) : num al rs k = num al rt k := by
  unfold num pnum
  have er : rowAt rs k = rowAt rt k := by
    unfold rowAt
    rw [List.getD_eq_getElem?_getD, List.getD_eq_getElem?_getD]
    have a : (rs.take s)[k]? = rs[k]? := by rw [List.getElem?_take, if_pos hk]
    have b : (rt.take s)[k]? = rt[k]? := by rw [List.getElem?_take, if_pos hk]
    rw [← a, ← b, e]
  have et : rs.take k = rt.take k := by
    have a : (rs.take s).take k = rs.take k := by rw [List.take_take, Nat.min_eq_left (by omega)]
    have b : (rt.take s).take k = rt.take k := by rw [List.take_take, Nat.min_eq_left (by omega)]
    rw [← a, ← b, e]
  rw [if_pos (by omega), if_pos (by omega), er, et]
def wid (n : Nat) : Nat := (bitsOf (n : Int)).toNat
def nbl (n m : Nat) : List Nat := nbL n (wid m)
theorem nbl_ok {n m : Nat} (h : n < m) : Nb (nbl n m) (n : Int) (wid m) := by
  have := bits_lt (n := (n : Int)) (m := (m : Int)) (by omega) (by omega)
  rw [Int.toNat_natCast] at this
  exact nb_ok this
def prt (al : List Nat) (rs : Rw) (k : Nat) : List Nat := nbl (num al rs k) (opt al k)
def pre (al : List Nat) (rs : Rw) : Nat → List Nat
  | 0 => []
  | k + 1 => pre al rs k ++ prt al rs k
def rch (al : List Nat) : Nat → Nat
  | 0 => 0
  | k + 1 => rch al k + wid (opt al k)
def blk (al : List Nat) (s : Rw × Nat) : List Nat := pre al s.1 (s.1.length + 1) ++ nbl s.2 (s.1.length + 1)
theorem pre_len {al : List Nat} (ha : al.Pairwise (· < ·)) (hp : 1 ≤ al.length) {rs : Rw} (h : RowsOk al rs) : ∀ k, (pre al rs k).length = rch al k
  | 0 => rfl
  | k + 1 => by
    show (pre al rs k ++ nbl (num al rs k) (opt al k)).length = rch al k + wid (opt al k)
    rw [List.length_append, pre_len ha hp h k, (nbl_ok (num_lt ha hp h)).len]
theorem pre_same {al : List Nat} {rs rt : Rw} {s : Nat} (e : rs.take s = rt.take s) (h1 : s ≤ rs.length) (h2 : s ≤ rt.length) : ∀ k, k ≤ s → pre al rs k = pre al rt k
  | 0, _ => rfl
  | k + 1, hk => by
    show pre al rs k ++ prt al rs k = pre al rt k ++ prt al rt k
    rw [pre_same e h1 h2 k (by omega)]
    unfold prt
    rw [num_same e h1 h2 (by omega)]
theorem pre_split {al : List Nat} {rs : Rw} {s : Nat} : ∀ n, s < n → ∃ U, pre al rs n = pre al rs s ++ (prt al rs s ++ U)
  | 0, h => absurd h (Nat.not_lt_zero _)
  | n + 1, h => by
    by_cases c : s = n
    · subst c
      exact ⟨[], by show pre al rs s ++ prt al rs s = _; simp⟩
    · obtain ⟨U, e⟩ := pre_split (al := al) (rs := rs) (s := s) n (by omega)
      refine ⟨U ++ prt al rs n, ?_⟩
      show pre al rs n ++ prt al rs n = _
      rw [e]
      simp
theorem blk_len {al : List Nat} (ha : al.Pairwise (· < ·)) (hp : 1 ≤ al.length) {rs : Rw} (h : RowsOk al rs) {t : Nat} (ht : t ≤ rs.length) : (blk al (rs, t)).length = rch al (rs.length + 1) + wid (rs.length + 1) := by
  show (pre al rs (rs.length + 1) ++ nbl t (rs.length + 1)).length = _
  rw [List.length_append, pre_len ha hp h, (nbl_ok (show t < rs.length + 1 by omega)).len]
/-- A and B agree on R signs, and differ within the next W: there A is before B just where less -/
structure Parted (A B : List Nat) (R W : Nat) (less : Bool) : Prop where
  ex : ∃ P X Y U V, A = P ++ (X ++ U) ∧ B = P ++ (Y ++ V) ∧ P.length = R ∧ X.length = W ∧ Y.length = W ∧ if less = true then X < Y else Y < X
theorem nbl_lex {n k m : Nat} (hn : n < m) (hk : k < m) (h : n < k) : nbl n m < nbl k m := by
  have a := nbl_ok hn
  have b := nbl_ok hk
  exact lex_of_val _ _ (a.len.trans b.len.symm) a.digs b.digs (by rw [a.v, b.v]; omega)
theorem parted_of {al : List Nat} {P U V : List Nat} {n k m R : Nat} {less : Bool} (hn : n < m) (hk : k < m) (hP : P.length = R) (h : if less = true then n < k else k < n) : Parted (P ++ (nbl n m ++ U)) (P ++ (nbl k m ++ V)) R (wid m) less := by
  refine ⟨P, nbl n m, nbl k m, U, V, rfl, rfl, hP, (nbl_ok hn).len, (nbl_ok hk).len, ?_⟩
  cases less with
  | true => exact nbl_lex hn hk h
  | false => exact nbl_lex hk hn h
/-- the rows agree up to s, and there one ends or they differ -/
theorem parted_rows {al : List Nat} (A : Alf al) {rs rt : Rw} {t u s : Nat} (h1 : RowsOk al rs) (h2 : RowsOk al rt) (e : rs.take s = rt.take s) (l1 : s ≤ rs.length) (l2 : s ≤ rt.length) {less : Bool}
    (h : if less = true then num al rs s < num al rt s else num al rt s < num al rs s) : Parted (blk al (rs, t)) (blk al (rt, u)) (rch al s) (wid (opt al s)) less := by
  obtain ⟨U, e1⟩ := pre_split (al := al) (rs := rs) (s := s) (rs.length + 1) (by omega)
  obtain ⟨V, e2⟩ := pre_split (al := al) (rs := rt) (s := s) (rt.length + 1) (by omega)
  have p1 := pre_same (al := al) e l1 l2 s (Nat.le_refl _)
  show Parted (pre al rs (rs.length + 1) ++ nbl t (rs.length + 1)) (pre al rt (rt.length + 1) ++ nbl u (rt.length + 1)) _ _ _
  rw [e1, e2, List.append_assoc, List.append_assoc, List.append_assoc, List.append_assoc, ← p1]
  exact parted_of (al := al) (num_lt A.asc A.pos h1) (num_lt A.asc A.pos h2) (pre_len A.asc A.pos h1 s) h
theorem num_end {al : List Nat} {rs : Rw} : num al rs rs.length = 0 := if_neg (Nat.lt_irrefl _)
theorem num_pos {al : List Nat} {rs : Rw} {k : Nat} (h : k < rs.length) : num al rs k = 1 + pnum al rs k := if_pos h
theorem num_row {al : List Nat} (A : Alf al) {rs rt : Rw} {s : Nat} (h1 : RowsOk al rs) (h2 : RowsOk al rt) (e : rs.take s = rt.take s) (l1 : s < rs.length) (l2 : s < rt.length) (h : rlt (rowAt rs s) (rowAt rt s)) : num al rs s < num al rt s := by
  rw [num_pos l1, num_pos l2]
  unfold pnum
  have k1 := plc_mono A.asc (row_ok h1 l1).2 (row_ok h2 l2).2 h
  have k2 := bel_lt (pls_nd A.asc (h1.take s)) k1 (free_row A.asc h1 l1)
  rw [← e]
  omega
/-- both have the same rows: the tails tell -/
theorem parted_tails {al : List Nat} (A : Alf al) {rs : Rw} {t u : Nat} (h1 : RowsOk al rs) (ht : t ≤ rs.length) (hu : u ≤ rs.length) {less : Bool} (h : if less = true then t < u else u < t) :
    Parted (blk al (rs, t)) (blk al (rs, u)) (rch al (rs.length + 1)) (wid (rs.length + 1)) less := by
  have p := parted_of (al := al) (P := pre al rs (rs.length + 1)) (U := []) (V := []) (n := t) (k := u) (m := rs.length + 1) (R := rch al (rs.length + 1)) (less := less) (by omega) (by omega) (pre_len A.asc A.pos h1 _) h
  rw [List.append_nil, List.append_nil] at p
  exact p
theorem Parted.not_pre {A B : List Nat} {R W : Nat} {less : Bool} (h : Parted A B R W less) : ¬ A <+: B ∧ ¬ B <+: A := by
  obtain ⟨P, X, Y, U, V, rfl, rfl, hP, hX, hY, hl⟩ := h.ex
  have ne : X ≠ Y := fun e => by
    subst e
    cases less with
    | true => exact List.lt_irrefl _ hl
    | false => exact List.lt_irrefl _ hl
  have key : ∀ {X Y U V : List Nat}, X.length = Y.length → P ++ (X ++ U) <+: P ++ (Y ++ V) → X = Y := fun hxy hp => by
    obtain ⟨Z, hz⟩ := hp
    rw [List.append_assoc, List.append_assoc] at hz
    have h2 := List.append_cancel_left hz
    exact (List.append_inj h2 hxy).1
  exact ⟨fun hp => ne (key (hX.trans hY.symm) hp), fun hp => ne (key (hY.trans hX.symm) hp).symm⟩
theorem Parted.cut {A B : List Nat} {R W : Nat} {less : Bool} (h : Parted A B R W less) : R + W ≤ A.length ∧ R + W ≤ B.length ∧ A.take R = B.take R ∧
    (if less = true then (A.drop R).take W < (B.drop R).take W else (B.drop R).take W < (A.drop R).take W) := by
  obtain ⟨P, X, Y, U, V, rfl, rfl, hP, hX, hY, hl⟩ := h.ex
  subst hP
  have t1 : ∀ {Z : List Nat}, (P ++ Z).take P.length = P := fun {Z} => by simp
  have t2 : ∀ {Z : List Nat}, (P ++ Z).drop P.length = Z := fun {Z} => by simp
  have t3 : (X ++ U).take W = X := by rw [← hX]; simp
  have t4 : (Y ++ V).take W = Y := by rw [← hY]; simp
  refine ⟨?_, ?_, ?_, ?_⟩
  · simp only [List.length_append]
    omega
  · simp only [List.length_append]
    omega
  · rw [t1, t1]
  · rw [t2, t2, t3, t4]
    exact hl
theorem rch_mono {al : List Nat} : ∀ {i j : Nat}, i ≤ j → rch al i ≤ rch al j := by
  intro i j h
  induction h with
  | refl => exact Nat.le_refl _
  | @step k _ ih =>
    show rch al i ≤ rch al k + _
    omega
theorem wid_pow {n : Nat} (h : 1 ≤ n) : n ≤ 2 ^ wid n := by
  have := bits_lt (n := ((n - 1 : Nat) : Int)) (m := (n : Int)) (by omega) (by omega)
  rw [Int.toNat_natCast] at this
  unfold wid
  omega
theorem wid_mono {n m : Nat} (h1 : 1 ≤ n) (h : n ≤ m) : wid n ≤ wid m := by
  have hp := wid_pow (show 1 ≤ m by omega)
  have := bits_le (m := (n : Int)) (b := wid m) (by omega) (by
    have e : (2 : Int) ^ wid m = ((2 ^ wid m : Nat) : Int) := by
      rw [Int.natCast_pow]
      rfl
    rw [e]
    omega)
  unfold wid at this ⊢
  omega
theorem wid_two {n : Nat} (h : 2 ≤ n) : 1 ≤ wid n := by
  have hp := wid_pow (show 1 ≤ n by omega)
  cases e : wid n with
  | zero =>
    rw [e] at hp
    simp at hp
    omega
  | succ k => omega
def bln (al : List Nat) (m : Nat) : Nat := rch al (m + 1) + wid (m + 1)
theorem bln_lt {al : List Nat} (hp : 1 ≤ al.length) {m k : Nat} (h : m < k) : bln al m < bln al k := by
  have h1 := rch_mono (al := al) (show m + 2 ≤ k + 1 by omega)
  have h2 := wid_two (opt_two hp (m + 1))
  have h3 := wid_mono (n := m + 1) (m := k + 1) (by omega) (by omega)
  have h4 : rch al (m + 2) = rch al (m + 1) + wid (opt al (m + 1)) := rfl
  unfold bln
  omega
theorem bln_iff {al : List Nat} (hp : 1 ≤ al.length) {m k : Nat} : (bln al m < bln al k ↔ m < k) ∧ (bln al m = bln al k ↔ m = k) := by
  rcases Nat.lt_trichotomy m k with h | h | h
  · have := bln_lt hp h
    omega
  · subst h
    omega
  · have := bln_lt hp h
    omega
/-- what the law computes of two cuts whose rows agree up to s -/
def lR (al : List Nat) (a b : Rw × Nat) (s : Nat) : Nat := if s = a.1.length ∧ s = b.1.length then rch al (s + 1) else rch al s
def lW (al : List Nat) (a b : Rw × Nat) (s : Nat) : Nat := if s = a.1.length ∧ s = b.1.length then wid (s + 1) else wid (opt al s)
def rltb (a b : Nat × Nat) : Bool := decide (a.1 < b.1 ∨ a.1 = b.1 ∧ a.2 < b.2)
def lL (a b : Rw × Nat) (s : Nat) : Bool := if s = a.1.length ∧ s = b.1.length then decide (a.2 < b.2) else if s = a.1.length ∨ s = b.1.length then decide (a.1.length < b.1.length) else rltb (rowAt a.1 s) (rowAt b.1 s)
structure Agree (a b : Rw) (s : Nat) : Prop where
  same : a.take s = b.take s
  l1 : s ≤ a.length
  l2 : s ≤ b.length
  last : s = a.length ∨ s = b.length ∨ rowAt a s ≠ rowAt b s
theorem law_pair {al w v : List Nat} (A : Alf al) (hw : ∀ c ∈ w, c ∈ al) (hv : ∀ c ∈ v, c ∈ al) (ne : w ≠ v) {s : Nat} (g : Agree (cutW w).1 (cutW v).1 s) :
    Parted (blk al (cutW w)) (blk al (cutW v)) (lR al (cutW w) (cutW v) s) (lW al (cutW w) (cutW v) s) (lL (cutW w) (cutW v) s) := by
  have k1 := cut_ok w hw
  have k2 := cut_ok v hv
  have hne : cutW w ≠ cutW v := fun e => ne (cut_inj hw hv e)
  generalize cutW w = a at *
  generalize cutW v = b at *
  obtain ⟨rs, t⟩ := a
  obtain ⟨rt, u⟩ := b
  have o1 : RowsOk al rs := k1.ok
  have o2 : RowsOk al rt := k2.ok
  have t1 : t ≤ rs.length := k1.low
  have t2 : u ≤ rt.length := k2.low
  obtain ⟨same, l1, l2, last⟩ := g
  have l1 : s ≤ rs.length := l1
  have l2 : s ≤ rt.length := l2
  have same : rs.take s = rt.take s := same
  have last : s = rs.length ∨ s = rt.length ∨ rowAt rs s ≠ rowAt rt s := last
  unfold lR lW lL
  show Parted _ _ (if s = rs.length ∧ s = rt.length then rch al (s + 1) else rch al s) (if s = rs.length ∧ s = rt.length then wid (s + 1) else wid (opt al s)) (if s = rs.length ∧ s = rt.length then decide (t < u) else if s = rs.length ∨ s = rt.length then decide (rs.length < rt.length) else rltb (rowAt rs s) (rowAt rt s))
  by_cases c : s = rs.length ∧ s = rt.length
  · rw [if_pos c, if_pos c, if_pos c]
    have er : rs = rt := by
      rw [List.take_of_length_le (by omega), List.take_of_length_le (by omega)] at same
      exact same
    subst er
    have htu : t ≠ u := fun e => hne (by rw [e])
    rw [c.1]
    refine parted_tails A o1 t1 t2 ?_
    by_cases q : t < u
    · rw [if_pos (decide_eq_true q)]
      exact q
    · rw [if_neg (by simpa using q)]
      omega
  · rw [if_neg c, if_neg c, if_neg c]
    refine parted_rows A o1 o2 same l1 l2 ?_
    by_cases d : s = rs.length ∨ s = rt.length
    · rw [if_pos d]
      rcases d with d | d
      · have hlt : rs.length < rt.length := by omega
        rw [if_pos (decide_eq_true hlt)]
        have h0 : num al rs s = 0 := by
          rw [d]
          exact num_end
        rw [h0, num_pos (by omega)]
        omega
      · have hlt : ¬ rs.length < rt.length := by omega
        rw [if_neg (by simpa using hlt)]
        have h0 : num al rt s = 0 := by
          rw [d]
          exact num_end
        rw [h0, num_pos (by omega)]
        omega
    · rw [if_neg d]
      have d1 : s < rs.length := by omega
      have d2 : s < rt.length := by omega
      have hn : rowAt rs s ≠ rowAt rt s := by
        rcases last with z | z | z
        · exact absurd (.inl z) d
        · exact absurd (.inr z) d
        · exact z
      by_cases q : rlt (rowAt rs s) (rowAt rt s)
      · rw [if_pos (show rltb (rowAt rs s) (rowAt rt s) = true from decide_eq_true q)]
        exact num_row A o1 o2 same d1 d2 q
      · rw [if_neg (show ¬ rltb (rowAt rs s) (rowAt rt s) = true from fun h => q (by unfold rltb at h; unfold rlt; exact of_decide_eq_true h))]
        have q2 := (rlt_tri hn).resolve_left q
        exact num_row A o2 o1 same.symm d2 d1 q2
theorem blk_cut_len {al w : List Nat} (A : Alf al) (hw : ∀ c ∈ w, c ∈ al) : (blk al (cutW w)).length = bln al (cutW w).1.length := by
  have k := cut_ok w hw
  exact blk_len A.asc A.pos k.ok k.low
/-- one there is: the rows agree up to some place -/
theorem agree_ex : ∀ (a b : Rw), ∃ s, Agree a b s := by
  intro a b
  have h : ∀ n, n ≤ a.length → n ≤ b.length → a.take n = b.take n → ∃ s, Agree a b s := by
    intro n
    generalize hd : a.length - n = d
    induction d generalizing n with
    | zero => exact fun h1 h2 e => ⟨n, e, h1, h2, .inl (by omega)⟩
    | succ d ih =>
      intro h1 h2 e
      by_cases c : n = b.length
      · exact ⟨n, e, h1, h2, .inr (.inl c)⟩
      · by_cases q : rowAt a n = rowAt b n
        · refine ih (n + 1) (by omega) (by omega) (by omega) ?_
          rw [List.take_add_one, List.take_add_one, e, rowAt_get (by omega), rowAt_get (by omega), q]
        · exact ⟨n, e, h1, h2, .inr (.inr q)⟩
  exact h 0 (Nat.zero_le _) (Nat.zero_le _) rfl
theorem blk_not_pre {al w v : List Nat} (A : Alf al) (hw : ∀ c ∈ w, c ∈ al) (hv : ∀ c ∈ v, c ∈ al) (ne : w ≠ v) : ¬ blk al (cutW w) <+: blk al (cutW v) := by
  obtain ⟨s, g⟩ := agree_ex (cutW w).1 (cutW v).1
  exact (law_pair A hw hv ne g).not_pre.1
end Ver
namespace Ver
open PySem PySem.Spec PyProof.Rows L2 Evl
structure At (K : PySem.W.Frag) (mg : Str → Option Value) (x : Str) (st : Stmt) : Prop where
  ex : ∃ f fd, Fun K x x st f fd ∧ mg x = some (.ref f)
def Has (P : Program) (w : World) (K : PySem.W.Frag) (mg : Str → Option Value) (base : Heap) (x : Str) (st : Stmt) (ps : List Str) (k : Nat) (sp : Sp) : Prop :=
  ∃ f fd, Fun K x x st f fd ∧ FnOk P w K mg base CX0 k f fd ps sp ∧ Binds K fd ps [] ∧ mg x = some (.ref f) ∧ PySem.W.keepIn K (.ref f) = true
/-- an __init__, and the class that it makes -/
structure AtI (K : PySem.W.Frag) (C : Addr) (q : Str) (st : Stmt) : Prop where
  ex : ∃ f fd, Fun K "__init__" q st f fd ∧ Mk K C f
def HasI (P : Program) (w : World) (K : PySem.W.Frag) (mg : Str → Option Value) (base : Heap) (C : Addr) (ps : List Str) (k : Nat) (sp : Sp) : Prop :=
  ∃ f fd, FnOk P w K mg base CX0 k f fd ps sp ∧ Binds K fd ps [] ∧ Mk K C f
/-! ### data of the heap -/
structure RowsAt (H : Hp) (xs : List V) (rs : Rw) : Prop where
  len : xs.length = rs.length
  row : ∀ (i p c : Nat), rs[i]? = some (p, c) → ∃ r, xs[i]? = some (V.ref r) ∧ H r = some (.tup [.int (p : Int), tx [c]])
theorem RowsAt.mono {H H' : Hp} {xs : List V} {rs : Rw} (h : RowsAt H xs rs) (e : Ex H H') : RowsAt H' xs rs := ⟨h.len, fun i p c q => by
  obtain ⟨r, a, b⟩ := h.row i p c q
  exact ⟨r, a, e _ _ b⟩⟩
/-- what is no tuple may change -/
theorem RowsAt.upd {H : Hp} {xs : List V} {rs : Rw} {l : Addr} {o u : HO} (h : RowsAt H xs rs) (hl : H l = some u) (hu : ∀ ys, u ≠ .tup ys) : RowsAt (upd H l o) xs rs := ⟨h.len, fun i p c q => by
  obtain ⟨r, a, b⟩ := h.row i p c q
  refine ⟨r, a, ?_⟩
  rw [upd_ne]
  · exact b
  · intro z
    rw [z, hl] at b
    exact hu _ (Option.some.inj b)⟩
theorem RowsAt.nil {H : Hp} : RowsAt H [] [] := ⟨rfl, fun i p c q => by simp at q⟩
theorem RowsAt.snoc {H : Hp} {xs : List V} {rs : Rw} {r : Addr} {p c : Nat} (h : RowsAt H xs rs) (hr : H r = some (.tup [.int (p : Int), tx [c]])) : RowsAt H (xs ++ [.ref r]) (rs ++ [(p, c)]) := by
  refine ⟨by rw [List.length_append, List.length_append, h.len]; rfl, fun i q d e => ?_⟩
  by_cases hi : i < rs.length
  · rw [List.getElem?_append_left hi] at e
    obtain ⟨r', a, b⟩ := h.row i q d e
    exact ⟨r', by rw [List.getElem?_append_left (by rw [h.len]; exact hi)]; exact a, b⟩
  · have h1 := (List.getElem?_eq_some_iff.mp e).1
    rw [List.length_append] at h1
    have e2 : i = rs.length := by
      simp at h1
      omega
    subst e2
    have e3 : (p, c) = (q, d) := by simpa using e
    cases e3
    refine ⟨r, ?_, hr⟩
    rw [← h.len]
    simp
theorem RowsAt.get {H : Hp} {xs : List V} {rs : Rw} (h : RowsAt H xs rs) {i : Nat} {x : V} (hx : xs[i]? = some x) : i < rs.length ∧ ∃ r, x = .ref r ∧ H r = some (.tup [.int ((rowAt rs i).1 : Int), tx [(rowAt rs i).2]]) := by
  have hi : i < rs.length := by
    rw [← h.len]
    exact (List.getElem?_eq_some_iff.mp hx).1
  refine ⟨hi, ?_⟩
  obtain ⟨r, a, b⟩ := h.row i _ _ (rowAt_get hi)
  rw [a] at hx
  exact ⟨r, (Option.some.inj hx).symm, b⟩
/-! ### promises' shapes -/
def RetU (xs : List V) (H : Hp) (Q : VK) : Prop := ∀ p H2, H p = none → Ex H H2 → H2 p = some (.tup xs) → Q (.ref p) H2
section
variable {K : PySem.W.Frag} {σ : L2.St} {H : Hp} {ta tb te : TE} {t : TT} {tu tz : TS} {D : Ends}
/-! ### texts -/
theorem rc_lenS {l : List Nat} (h : l.length ≤ 100000) : RC (fun vs H Q => ∃ z : Str, vs = [.str z] ∧ z.length ≤ sizeLine ∧ Q (.int (z.length : Int)) H) [tx l] H (.int (l.length : Int)) := fun H1 _ Q q =>
  ⟨SX.S l, rfl, by rw [SX.S_len]; exact sz_of h, by rw [SX.S_len]; exact q H1 (Ex.refl H1)⟩
theorem ev_lenS {l : List Nat} (h : l.length ≤ 100000) (ha : Ev ta σ H (tx l)) : Ev (tCB (fun vs H Q => ∃ z : Str, vs = [.str z] ∧ z.length ≤ sizeLine ∧ Q (.int (z.length : Int)) H) (tCons ta tNil)) σ H (.int (l.length : Int)) := ev_cb (ea_cons ha ea_nil) (rc_lenS h)
theorem rv_ltS {a b : List Nat} : RV (fun x y H Q => ∃ i j : Str, x = .str i ∧ y = .str j ∧ Q (.bl (decide (i.cps.toList < j.cps.toList))) H) (tx a) (tx b) H (.bl (decide (a < b))) := fun H1 _ _ q => ⟨_, _, rfl, rfl, q H1 (Ex.refl H1)⟩
theorem ev_catS {a b : List Nat} (h : a.length + b.length ≤ 100000) (ha : Ev ta σ H (tx a)) (hb : Ev tb σ H (tx b)) : Ev (tOp (fun x y H Q => ∃ i j : Str, x = .str i ∧ y = .str j ∧ i.length + j.length ≤ sizeLine ∧ Q (.str (i ++ j)) H) ta tb) σ H (tx (a ++ b)) :=
  ev_op ha hb fun H1 _ Q q => ⟨_, _, rfl, rfl, by rw [SX.S_len, SX.S_len]; exact sz_of h, by rw [SX.S_cat]; exact q H1 (Ex.refl H1)⟩
theorem et_neS {a b : List Nat} (ha : Ev ta σ H (tx a)) (hb : Ev tb σ H (tx b)) : EvT (tTest (tOp rNe ta tb)) σ H (!decide (a = b)) := et_test (ev_is (ev_op ha hb (rv_ne rfl)) (by rw [tx_dec]))
theorem et_eqS {a b : List Nat} (ha : Ev ta σ H (tx a)) (hb : Ev tb σ H (tx b)) : EvT (tTest (tOp rEq ta tb)) σ H (decide (a = b)) := et_test (ev_is (ev_op ha hb (rv_eq rfl)) (by rw [tx_dec]))
theorem rv_inSign {c : Nat} {l : List Nat} : RV (fun x y H Q => ∃ (c : Nat) (z : Str), x = .str ⟨#[c]⟩ ∧ y = .str z ∧ Q (.bl (decide (c ∈ z.cps.toList))) H) (tx [c]) (tx l) H (.bl (decide (c ∈ l))) := fun H1 _ _ q => ⟨c, SX.S l, rfl, rfl, q H1 (Ex.refl H1)⟩
theorem cutS_all {l : List Nat} {lo hi : Option Int} : cutS (SX.S l) lo hi = SX.S ((l.drop (HT.sIx l.length 0 lo)).take (HT.sIx l.length l.length hi - HT.sIx l.length 0 lo)) := by
  unfold cutS
  rw [SX.S_len]
def cutL (l : List Nat) (lo hi : Option Int) : List Nat := (l.drop (HT.sIx l.length 0 lo)).take (HT.sIx l.length l.length hi - HT.sIx l.length 0 lo)
theorem cutL_from {l : List Nat} (n : Nat) : cutL l (some (n : Int)) none = l.drop n := by
  unfold cutL
  rw [HT.sIx_none, HT.sIx_nat]
  by_cases h : n ≤ l.length
  · rw [Nat.min_eq_left h]
    exact List.take_of_length_le (by rw [List.length_drop]; omega)
  · rw [Nat.min_eq_right (by omega), Nat.sub_self, List.take_zero, List.drop_eq_nil_of_le (by omega)]
theorem cutL_to {l : List Nat} (n : Nat) : cutL l none (some (n : Int)) = l.take n := by
  unfold cutL
  rw [HT.sIx_none, HT.sIx_nat]
  simp only [Nat.sub_zero, List.drop_zero]
  by_cases h : n ≤ l.length
  · rw [Nat.min_eq_left h]
  · rw [Nat.min_eq_right (by omega), List.take_length, List.take_of_length_le (by omega)]
theorem cutL_both {l : List Nat} (a b : Nat) : cutL l (some (a : Int)) (some ((a + b : Nat) : Int)) = (l.drop a).take b := by
  unfold cutL
  rw [HT.sIx_nat, HT.sIx_nat]
  by_cases h : a ≤ l.length
  · rw [Nat.min_eq_left h]
    by_cases h2 : a + b ≤ l.length
    · rw [Nat.min_eq_left h2]
      congr 1
      omega
    · rw [Nat.min_eq_right (by omega), List.take_of_length_le (by rw [List.length_drop]; omega), List.take_of_length_le (by rw [List.length_drop]; omega)]
  · rw [Nat.min_eq_right (by omega), Nat.min_eq_right (by omega), Nat.sub_self, List.take_zero, List.drop_eq_nil_of_le (by omega)]
    simp
theorem cutL_sub {l : List Nat} {lo hi : Option Int} : ∀ c ∈ cutL l lo hi, c ∈ l := fun c h => List.mem_of_mem_drop (List.mem_of_mem_take h)
theorem cutL_len {l : List Nat} {lo hi : Option Int} : (cutL l lo hi).length ≤ l.length := by
  unfold cutL
  rw [List.length_take, List.length_drop]
  omega
theorem ev_slS {l : List Nat} {tl th : TO} {lo hi : Option Int} (hz : l.length ≤ 100000) (h : Ev te σ H (tx l)) (h1 : EvO tl σ H lo) (h2 : EvO th σ H hi) : Ev (tSl rSlS te tl th) σ H (tx (cutL l lo hi)) := fun H1 e Q q =>
  h H1 e _ fun H2 e2 => h1 H2 (e.trans e2) _ fun H3 e3 => h2 H3 ((e.trans e2).trans e3) _ fun H4 e4 =>
    ⟨SX.S l, rfl, by rw [SX.S_len]; exact sz_of hz, by rw [cutS_all]; exact q H4 ((e2.trans e3).trans e4)⟩
theorem ev_ixS {l : List Nat} {i c : Nat} (hz : l.length ≤ 100000) (hi : l[i]? = some c) (ha : Ev ta σ H (tx l)) (hb : Ev tb σ H (.int (i : Int))) : Ev (tOp rIxS ta tb) σ H (tx [c]) :=
  ev_op ha hb (rv_ixS (w := SX.S l) (by rw [SX.S_len]; exact hz) (atI_nat hi))
theorem ev_mulS {l : List Nat} {n : Nat} (h1 : n ≤ 100000) (h2 : l.length * n ≤ 100000) (ha : Ev ta σ H (tx l)) (hb : Ev tb σ H (.int (n : Int))) : Ev (tOp rMulS ta tb) σ H (tx (List.replicate n l).flatten) :=
  ev_op ha hb fun H1 _ Q q => ⟨l, n, rfl, rfl, h1, h2, q H1 (Ex.refl H1)⟩
/-! ### lists made on the way -/
theorem ev_allN {bs : List Bool} (ha : EvL ta σ H (bs.map V.bl)) : Ev (tCB (rAll K) (tCons ta tNil)) σ H (.bl (bs.all id)) := fun H1 e Q q =>
  ha H1 e _ fun p H2 _ e2 h2 => ⟨p, bs, rfl, sq_of h2, q H2 e2⟩
theorem eu_tupOfL {xs : List V} (ha : EvL ta σ H xs) : EvU (tCB (fun xs H Q => ∃ p ys, xs = [.ref p] ∧ ((SqL K H p ys ∧ ∀ l, H l = none → Q (.ref l) (upd H l (.tup ys))) ∨ (SqT K H p ys ∧ Q (.ref p) H))) (tCons ta tNil)) σ H xs := fun H1 e Q q =>
  ha H1 e _ fun p H2 _ e2 h2 => ⟨p, xs, rfl, .inl ⟨sq_of h2, fun l hl => q l _ (fresh_back e2 hl) (e2.trans (Ex.new hl)) upd_same⟩⟩
theorem eu_tupOf {p : Addr} {xs : List V} (ha : Ev ta σ H (.ref p)) (hp : SqL K H p xs) : EvU (tCB (fun xs H Q => ∃ p ys, xs = [.ref p] ∧ ((SqL K H p ys ∧ ∀ l, H l = none → Q (.ref l) (upd H l (.tup ys))) ∨ (SqT K H p ys ∧ Q (.ref p) H))) (tCons ta tNil)) σ H xs := fun H1 e Q q =>
  ha H1 e _ fun H2 e2 => ⟨p, xs, rfl, .inl ⟨ex_l (e.trans e2) hp, fun l hl => q l _ (fresh_back e2 hl) (e2.trans (Ex.new hl)) upd_same⟩⟩
theorem rc_lenT {p : Addr} {xs : List V} (h : SqT K H p xs) : RC (fun vs H Q => ∃ p ys, vs = [V.ref p] ∧ (SqL K H p ys ∨ SqT K H p ys) ∧ Q (V.int ys.length) H) [.ref p] H (.int xs.length) := fun H1 e _ q =>
  ⟨p, xs, rfl, .inr (ex_t e h), q H1 (Ex.refl H1)⟩
/-- a list made over zip(text, text) -/
theorem el_lcZ {x y : List Nat} {tp : TA} {j1 j2 : Nat} {vs : List Nat} (v : Nat → V) (h : EvA tp σ H [tx x, tx y]) (hz : x.length ≤ 40000)
    (hw : ∀ a b, wipe (((wipe σ vs).set j1 (some a)).set j2 (some b)) vs = wipe σ vs)
    (he : ∀ (i c d : Nat) H1, Ex H H1 → x[i]? = some c → y[i]? = some d → Ev te (((wipe σ vs).set j1 (some (tx [c]))).set j2 (some (tx [d]))) H1 (v i)) :
    EvL (tLc (iZipS tp) (gTup K 2 (gCons (gName j1) (gCons (gName j2) gNil))) tYes te vs) σ H ((List.range (min x.length y.length)).map v) := fun H0 e Q q => h H0 e _ fun H1 e1 => ⟨SX.S x, SX.S y, rfl, fun Dl hD => by
  have hn : min (SX.S x).cps.size (SX.S y).cps.size = min x.length y.length := by
    show min x.toArray.size y.toArray.size = _
    simp
  refine lc_it walk_zs (Cw H1 (fun _ => true) v Dl) ⟨hD, Ex.new hD, upd_same⟩ (fun _ _ _ _ => trivial) (fun i z H' H2 hi p yp => ?_) (fun H' p => ?_)
  · obtain ⟨T, a, b, rfl, hT, rfl, ha, hb⟩ := yp
    have ha2 : (x[i]?).map (fun c => tx [c]) = some a := ha
    have hb2 : (y[i]?).map (fun c => tx [c]) = some b := hb
    cases hx : x[i]? with
    | none =>
      rw [hx] at ha2
      cases ha2
    | some c =>
    cases hy : y[i]? with
    | none =>
      rw [hy] at hb2
      cases hb2
    | some d =>
    rw [hx] at ha2
    rw [hy] at hb2
    cases ha2
    cases hb2
    have hxl := (List.getElem?_eq_some_iff.mp hx).1
    have p2 : Cw H1 (fun _ => true) v Dl i (L2.upd H' T (.tup [tx [c], tx [d]])) := ⟨p.1, p.2.1.trans (Ex.new hT), Ex.new hT _ _ p.2.2⟩
    exact ⟨T, _, rfl, st_of upd_same, rfl, _, _, rfl, _, _, rfl, rfl, hw _ _, cw_turn p2 (by omega) et_yes fun _ => he i c d H1 (e.trans e1) hx hy⟩
  · rw [hn] at p
    have e9 := given_all (min x.length y.length) v
    have p3 := p.2.2
    rw [e9] at p3
    exact q Dl H' (fresh_back e1 p.1) (e1.trans p.2.1) p3⟩
end
end Ver
namespace Ver
open PySem PySem.Spec PyProof.Rows L2 Evl
section
variable {K : PySem.W.Frag} {σ : L2.St} {H : Hp} {ta tb tc te tl ty td : TE} {t : TT} {tu tz : TS} {D : Ends}
abbrev gPair (K : PySem.W.Frag) (j1 j2 : Nat) : TG := gTup K 2 (gCons (gName j1) (gCons (gName j2) gNil))
theorem q_drop {v : V} (h : Ev te σ H v) (k : ∀ H1, Ex H H1 → tz D σ H1) : tSeq (tDrop te) tz D σ H := s_drop (D := { D with nx := tz D }) h k
/-- a, b = a pair that stands -/
theorem q_unp {r : Addr} {a b : V} {j1 j2 : Nat} (h : Ev te σ H (.ref r)) (hr : H r = some (.tup [a, b])) (k : ∀ H1, Ex H H1 → tz D ((σ.set j1 (some a)).set j2 (some b)) H1) : tSeq (tAsg te (gPair K j1 j2)) tz D σ H :=
  h H (Ex.refl H) _ fun H1 e => ⟨r, [a, b], rfl, st_of (e _ _ hr), rfl, a, [b], rfl, b, [], rfl, rfl, k H1 e⟩
/-- for i, x in enumerate(a tuple) -/
theorem s_forET {tp : TA} {a : Addr} {xs : List V} {j1 j2 : Nat} (h : EvA tp σ H [.ref a]) (hx : SqT K H a xs)
    (Pv : Nat → L2.St → Hp → Prop) (h0 : ∀ H1, Ex H H1 → Pv 0 σ H1) (hG : ∀ i σ' H', Pv i σ' H' → SqT K H' a xs)
    (hs : ∀ i x σ' H' H2, xs[i]? = some x → Pv i σ' H' → Ex H' H2 → tu { D with nx := Pv (i + 1), ct := Pv (i + 1), bk := D.nx } ((σ'.set j1 (some (.int (i : Int)))).set j2 (some x)) H2)
    (hd : ∀ σ' H', Pv xs.length σ' H' → D.nx σ' H') : tFor (iEnumT K tp) (gPair K j1 j2) tu D σ H := by
  refine h H (Ex.refl H) _ fun H1 e1 => ⟨a, xs, rfl, ex_t e1 hx, for_it (walk_eT (k := 0) (xs := xs)) Pv (h0 H1 e1) (fun i σ' H' _ p => hG i σ' H' p) ?_ hd⟩
  intro i v σ' H3 H4 _ p y
  obtain ⟨T, x, z, rfl, hT, rfl, e3, e4⟩ := y
  cases e3
  have g := hs i z σ' H3 (L2.upd H3 T (.tup [.int (0 + (i : Int)), z])) e4 p (Ex.new hT)
  have e0 : (0 : Int) + (i : Int) = (i : Int) := Int.zero_add _
  refine ⟨T, [.int (0 + (i : Int)), z], rfl, st_of upd_same, rfl, _, _, rfl, _, _, rfl, rfl, ?_⟩
  generalize L2.upd H3 T (.tup [.int (0 + (i : Int)), z]) = HX at g ⊢
  show tu _ ((σ'.set j1 (some (.int (0 + (i : Int))))).set j2 (some z)) HX
  rw [e0]
  exact g
/-- for p, c in rows (a tuple of pairs) -/
theorem q_forRows {a : Addr} {xs : List V} {rs : Rw} {j1 j2 : Nat} (h : Ev tl σ H (.ref a)) (hx : SqT K H a xs) (R : RowsAt H xs rs)
    (Pv : Nat → L2.St → Hp → Prop) (h0 : ∀ H1, Ex H H1 → Pv 0 σ H1) (hG : ∀ i σ' H', Pv i σ' H' → SqT K H' a xs ∧ RowsAt H' xs rs)
    (hs : ∀ i σ' H', i < rs.length → Pv i σ' H' → tu { D with nx := Pv (i + 1), ct := Pv (i + 1), bk := tz D } ((σ'.set j1 (some (.int ((rowAt rs i).1 : Int)))).set j2 (some (tx [(rowAt rs i).2]))) H')
    (hd : ∀ σ' H', Pv rs.length σ' H' → tz D σ' H') : tSeq (tFor (iTup K tl) (gPair K j1 j2) tu) tz D σ H := by
  refine q_forT h hx Pv h0 (fun i σ' H' _ p => (hG i σ' H' p).1) ?_ (by rw [R.len]; exact hd)
  intro i x σ' H' hi p
  obtain ⟨hlt, r, rfl, hr⟩ := (hG i σ' H' p).2.get hi
  exact ⟨r, _, rfl, st_of hr, rfl, _, _, rfl, _, _, rfl, rfl, hs i σ' H' hlt p⟩
/-! ### dicts -/
theorem et_din {a : Addr} {y : V} {o : Option V} (hy : Ev ty σ H y) (hd : Ev td σ H (.ref a)) (hg : ∀ H1, Ex H H1 → DGet H1 a y o) : EvT (tB (tDIn ty td)) σ H o.isSome := fun H1 e Q q =>
  hy H1 e _ fun H2 e2 => hd H2 (e.trans e2) _ fun H3 e3 => ⟨a, o, rfl, hg H3 ((e.trans e2).trans e3), o.isSome, rfl, q H3 (e2.trans e3)⟩
theorem ev_dget {a : Addr} {y v : V} (hd : Ev td σ H (.ref a)) (hy : Ev ty σ H y) (hg : ∀ H1, Ex H H1 → DGet H1 a y (some v)) : Ev (tDGet td ty) σ H v := fun H1 e Q q =>
  hd H1 e _ fun H2 e2 => hy H2 (e.trans e2) _ fun H3 e3 => ⟨a, v, rfl, hg H3 ((e.trans e2).trans e3), q H3 (e2.trans e3)⟩
theorem s_dput {a : Addr} {y v : V} {g : Hp → Hp} (hv : Ev te σ H v) (hd : Ev td σ H (.ref a)) (hy : Ev ty σ H y) (hp : ∀ H1, Ex H H1 → DPut H1 a y v (g H1)) (k : ∀ H1, Ex H H1 → D.nx σ (g H1)) : sDPut td ty te D σ H :=
  hv H (Ex.refl H) _ fun H1 e1 => hd H1 e1 _ fun H2 e2 => hy H2 (e1.trans e2) _ fun H3 e3 => ⟨a, g H3, rfl, hp H3 ((e1.trans e2).trans e3), k H3 ((e1.trans e2).trans e3)⟩
theorem q_dput {a : Addr} {y v : V} {g : Hp → Hp} (hv : Ev te σ H v) (hd : Ev td σ H (.ref a)) (hy : Ev ty σ H y) (hp : ∀ H1, Ex H H1 → DPut H1 a y v (g H1)) (k : ∀ H1, Ex H H1 → tz D σ (g H1)) : tSeq (sDPut td ty te) tz D σ H :=
  s_dput (D := { D with nx := tz D }) hv hd hy hp k
theorem q_newT {i : Nat} (k : ∀ p H1, H p = none → Ex H H1 → H1 p = some (.dT []) → tz D (σ.set i (some (.ref p))) H1) : tSeq (tAsg tDNewT (gName i)) tz D σ H := fun p hp => k p _ hp (Ex.new hp) upd_same
/-! ### list.insert, text.index, join -/
theorem q_ins {l : Addr} {xs : List V} {i : Nat} {v : V} (hl : H l = some (.lst xs)) (ha : Ev ta σ H (.ref l)) (hb : Ev tb σ H (.int (i : Int))) (hc : Ev tc σ H v) (hz : xs.length < 100000) (hi : i ≤ 100000)
    (k : ∀ H1, Ex H H1 → tz D σ (upd H1 l (.lst (xs.take i ++ [v] ++ xs.drop i)))) :
    tSeq (tDrop (tBM K "list" (fun x vs H Q => ∃ (l : Addr) (xs : List V) (i : Int) (y : V), x = .ref l ∧ vs = [.int i, y] ∧ H l = some (.lst xs) ∧ xs.length < sizeLine ∧ 0 ≤ i ∧ i < 2 ^ 63 ∧
      Q .non (upd H l (.lst (xs.take i.toNat ++ [y] ++ xs.drop i.toNat)))) ta (tCons tb (tCons tc tNil)))) tz D σ H :=
  ha H (Ex.refl H) _ fun H1 e1 => ⟨Or.inl ⟨rfl, xs, sq_of (e1 l _ hl)⟩, hb H1 e1 _ fun H2 e2 => hc H2 (e1.trans e2) _ fun H3 e3 =>
    ⟨l, xs, (i : Int), v, rfl, rfl, ((e1.trans e2).trans e3) l _ hl, sz_lt hz, by omega, by omega, by rw [Int.toNat_natCast]; exact k H3 ((e1.trans e2).trans e3)⟩⟩
theorem ev_sidx {l : List Nat} {c i : Nat} (nd : l.Nodup) (hi : l[i]? = some c) (ha : Ev ta σ H (tx l)) (hb : Ev tb σ H (tx [c])) : Ev (tBM K "str" (fun x xs H Q => ∃ a b i rest, x = .str a ∧ xs = [.str b] ∧ Builtin.Str.occurrences a b 0 a.length 1 = i :: rest ∧ Q (.int (i : Nat)) H) ta (tCons tb tNil)) σ H (.int (i : Int)) :=
  ev_bm ha (fun _ _ => rfl) (ea_cons hb ea_nil) fun H1 _ Q q => by
    obtain ⟨rest, e⟩ := index_one nd hi
    exact ⟨_, _, i, rest, rfl, rfl, e, q H1 (Ex.refl H1)⟩
theorem joinL_nil : ∀ ps : List (List Nat), TL.joinL [] ps = ps.flatten
  | [] => rfl
  | [p] => by
    show p = [p].flatten
    simp
  | p :: q :: r => by
    show p ++ ([] ++ TL.joinL [] (q :: r)) = (p :: q :: r).flatten
    rw [joinL_nil (q :: r)]
    simp
theorem join_flat (ps : List (List Nat)) : Txt.join (SX.S []) (ps.map SX.S) = SX.S ps.flatten := by
  rw [SX.join_S, joinL_nil]
theorem map_tx (ps : List (List Nat)) : ps.map tx = (ps.map SX.S).map V.str := by
  rw [List.map_map]
  rfl
theorem sum_lens : ∀ ps : List (List Nat), ((ps.map SX.S).map (·.length)).sum = ps.flatten.length
  | [] => rfl
  | p :: r => by
    rw [List.map_cons, List.map_cons, List.sum_cons, sum_lens r, SX.S_len, List.flatten_cons, List.length_append]
abbrev rJoin (K : PySem.W.Frag) : V → List V → Hp → VK → Prop := fun x xs H Q => ∃ a p, ∃ ys : List Str, x = .str a ∧ xs = [.ref p] ∧ (SqL K H p (ys.map V.str) ∨ SqT K H p (ys.map V.str)) ∧
  (ys.map (·.length)).sum + ys.length * a.length ≤ 16777216 ∧ Q (.str (Txt.join a ys)) H
theorem join_ok {p : Addr} {ps : List (List Nat)} (hp : SqL K H p (ps.map tx) ∨ SqT K H p (ps.map tx)) (hz : ps.flatten.length ≤ 100000) {Q : VK} (q : Q (tx ps.flatten) H) : rJoin K (tx []) [.ref p] H Q := by
  refine ⟨SX.S [], p, ps.map SX.S, rfl, rfl, by rw [← map_tx]; exact hp, ?_, ?_⟩
  · rw [sum_lens, SX.S_len]
    show _ + _ * 0 ≤ _
    omega
  · rw [join_flat]
    exact q
theorem ev_join {p : Addr} {ps : List (List Nat)} (ha : Ev ta σ H (tx [])) (hb : Ev tb σ H (.ref p)) (hp : SqL K H p (ps.map tx) ∨ SqT K H p (ps.map tx)) (hz : ps.flatten.length ≤ 100000) : Ev (tM1 (rJoin K) ta tb) σ H (tx ps.flatten) := fun H1 e Q q =>
  ha H1 e _ fun H2 e2 => ⟨⟨_, rfl⟩, hb H2 (e.trans e2) _ fun H3 e3 => join_ok (hp.elim (fun h => .inl (ex_l ((e.trans e2).trans e3) h)) (fun h => .inr (ex_t ((e.trans e2).trans e3) h))) hz (q H3 (e2.trans e3))⟩
theorem ev_joinL {ps : List (List Nat)} (ha : Ev ta σ H (tx [])) (hb : EvL tb σ H (ps.map tx)) (hz : ps.flatten.length ≤ 100000) : Ev (tM1 (rJoin K) ta tb) σ H (tx ps.flatten) := fun H1 e Q q =>
  ha H1 e _ fun H2 e2 => ⟨⟨_, rfl⟩, hb H2 (e.trans e2) _ fun p H3 _ e3 h3 => join_ok (.inl (sq_of h3)) hz (q H3 (e2.trans e3))⟩
/-! ### fields -/
theorem ev_fld {p C dx : Addr} {fs : List (Str × V)} {f : Str} {v : V} (h : Ev te σ H (.ref p)) (hp : H p = some (.ins C dx fs)) (c : Cls K C) (n : NoAttr K C f) (hl : fs.lookup f = some v) : Ev (tFld K te f) σ H v := fun H1 e Q q =>
  h H1 e _ fun H2 e2 => ⟨p, C, dx, fs, v, rfl, (e.trans e2) _ _ hp, c, n, hl, q H2 e2⟩
theorem q_fld {p C dx : Addr} {fs : List (Str × V)} {f : Str} {v : V} (hv : Ev te σ H v) (ho : Ev ta σ H (.ref p)) (hp : H p = some (.ins C dx fs)) (c : Cls K C) (n : NoAttr K C f) (hz : fs.length < 1000)
    (k : ∀ H1, Ex H H1 → tz D σ (upd H1 p (.ins C dx (putF f v fs)))) : tSeq (sFld K ta te f) tz D σ H :=
  hv H (Ex.refl H) _ fun H1 e1 => ho H1 e1 _ fun H2 e2 => ⟨p, C, dx, fs, rfl, (e1.trans e2) _ _ hp, c, n, hz, k H2 (e1.trans e2)⟩
theorem q_fldU {p C dx : Addr} {fs : List (Str × V)} {f : Str} {xs : List V} (hv : EvU te σ H xs) (ho : ∀ H1, Ex H H1 → Ev ta σ H1 (.ref p)) (hp : H p = some (.ins C dx fs)) (c : Cls K C) (n : NoAttr K C f) (hz : fs.length < 1000)
    (k : ∀ r H1, H r = none → Ex H H1 → H1 r = some (.tup xs) → tz D σ (upd H1 p (.ins C dx (putF f (.ref r) fs)))) : tSeq (sFld K ta te f) tz D σ H :=
  hv H (Ex.refl H) _ fun r H1 hr e1 h1 => ho H1 e1 H1 (Ex.refl H1) _ fun H2 e2 => ⟨p, C, dx, fs, rfl, (e1.trans e2) _ _ hp, c, n, hz, k r H2 hr (e1.trans e2) (e2 _ _ h1)⟩
theorem s_fldU {p C dx : Addr} {fs : List (Str × V)} {f : Str} {xs : List V} (hv : EvU te σ H xs) (ho : ∀ H1, Ex H H1 → Ev ta σ H1 (.ref p)) (hp : H p = some (.ins C dx fs)) (c : Cls K C) (n : NoAttr K C f) (hz : fs.length < 1000)
    (k : ∀ r H1, H r = none → Ex H H1 → H1 r = some (.tup xs) → D.nx σ (upd H1 p (.ins C dx (putF f (.ref r) fs)))) : sFld K ta te f D σ H :=
  hv H (Ex.refl H) _ fun r H1 hr e1 h1 => ho H1 e1 H1 (Ex.refl H1) _ fun H2 e2 => ⟨p, C, dx, fs, rfl, (e1.trans e2) _ _ hp, c, n, hz, k r H2 hr (e1.trans e2) (e2 _ _ h1)⟩
/-- a call that gives a new tuple -/
def SpU (sp : Sp) (vs : List V) (H : Hp) (xs : List V) : Prop := ∀ H1, Ex H H1 → ∀ Q : VK, (∀ p H2, H1 p = none → Ex H1 H2 → H2 p = some (.tup xs) → Q (.ref p) H2) → ∀ E : XK, sp vs H1 Q E
theorem eu_call {sp : Sp} {dvs vs xs : List V} {E : XK} {tp : TA} (h : EvA tp σ H vs) (hs : SpU sp (vs ++ dvs) H xs) : EvU (tCall sp dvs E tp) σ H xs := fun H1 e Q q =>
  h H1 e _ fun H2 e2 => hs H2 (e.trans e2) Q (fun p H3 hp e3 h3 => q p H3 (fresh_back e2 hp) (e2.trans e3) h3) E
end
end Ver
namespace Ver
open PySem PySem.Spec PyProof.Rows L2 Evl
/-! ### d.setdefault(k, x), tuple keys -/
section
variable {X : Cx}
def rSetT : V → List V → Hp → VK → Prop := fun x xs H Q => ∃ (a : Addr) (kvs : List (List L2.Key × V)) (k : List L2.Key) (b : Addr) (d : V), x = .ref a ∧ xs = [.ref b, d] ∧ H a = some (.dT kvs) ∧ H b = some (.tup (k.map kV)) ∧ kvs.length < sizeLine ∧
  (∀ v, valV kvs k = some v → Q v H) ∧ (valV kvs k = none → Q d (upd H a (.dT (putK kvs k d))))
theorem mt_setT (hu : X.A.units + 1 < cLine) : MtR X "dict.setdefault" rSetT := by
  intro pins s σ H x xs v us Q I rx rxs h
  obtain ⟨a, kvs, k, b, d, rfl, rfl, ha, hb, hl, q1, q2⟩ := h
  cases rx
  obtain ⟨u1, u2, rfl, r1, r2⟩ := vals2 rxs
  cases r1
  obtain ⟨z, hd, xs', rel, dd⟩ := dt_of I.hok ha
  have hz : xs'.length ≤ sizeLine := by rw [← Paired.length rel]; exact z
  refine call_setdefault_heap (hsz := hz) (k := k) (tupleKind_room_in1 hu) (key_of I.hok hb) hd dd (fun p hp => ?_) (fun hn h' dd' hs => ?_)
  · have r := rel.val k
    rw [hp] at r
    obtain ⟨v0, ev, rv⟩ : ∃ v0, valV kvs k = some v0 ∧ RelV v0 p.2 := by
      cases ev : valV kvs k with
      | none =>
        rw [ev] at r
        exact (show False from r).elim
      | some v0 =>
        rw [ev] at r
        exact ⟨v0, rfl, r⟩
    exact ⟨v0, H, I.tok _, rv, q1 v0 ev⟩
  · have r := rel.val k
    rw [hn] at r
    have e : valV kvs k = none := by
      cases ev : valV kvs k with
      | none => rfl
      | some v0 =>
        rw [ev] at r
        exact (show False from r).elim
    obtain ⟨q, es, ep, hq, h2, h3, h4, _, h5⟩ := dd'
    have hl2 : (putK kvs k d).length ≤ sizeLine := by
      have := length_putK kvs k d
      omega
    refine ⟨d, _, d_write (t' := s.toks + (tupleKind (mixKind X.prog X.w)).draws k) (ob := .dT (putK kvs k d)) I (by rw [ha]; exact True.intro) hs ⟨q, hq⟩ ⟨hl2, hd, _, (rel.put k hb r2).keeps fun c ys ec => ?_, q, es, ep, hq, h2, h3, h4, h5⟩, r2, q2 e⟩
    rw [upd_ne (ne_of ec ha (fun z => nomatch z))]
    exact ec
end
def rLenK : List V → Hp → VK → Prop := fun xs H Q => ∃ (p : Addr) (kvs : List (Key × V)), xs = [.ref p] ∧ H p = some (.dK kvs) ∧ Q (.int ((kvs.length : Nat) : Int)) H
theorem call_len_dK {X : Cx} : CallR X (.builtin "len") rLenK := by
  intro pins s σ H xs us Q I r h
  obtain ⟨p, kvs, rfl, hp, q⟩ := h
  obtain ⟨u, rfl, rx⟩ := vals1 r
  obtain rfl : u = .ref p := rx
  exact d_len I (.inl hp) fun t s' I' => ⟨.int ((kvs.length : Nat) : Int), H, I', ⟨_, rfl⟩, q⟩
theorem q_newK {σ : L2.St} {H : Hp} {D : Ends} {tz : TS} {i : Nat} (k : ∀ p H1, H p = none → Ex H H1 → H1 p = some (.dK []) → tz D (σ.set i (some (.ref p))) H1) : tSeq (tAsg tDNewK (gName i)) tz D σ H := fun p hp => k p _ hp (Ex.new hp) upd_same
/-! ### zip of a text and a list -/
def Izsl (K : PySem.W.Frag) (x : Str) (b : Addr) (ys : List V) : It where
  go := fun i H => i < x.cps.size ∧ i < ys.length ∧ SqL K H b ys
  yld := fun i H v H' => ∃ T c y, v = .ref T ∧ H T = none ∧ H' = upd H T (.tup [.str ⟨#[c]⟩, y]) ∧ x.cps[i]? = some c ∧ ys[i]? = some y
  stop := fun i H => i ≤ x.cps.size ∧ i ≤ ys.length ∧ (i = x.cps.size ∨ i = ys.length) ∧ SqL K H b ys
section
variable {P : Program} {w : World} {K : PySem.W.Frag} {elts : List Expr} {kk : Nat} {tpos : Pos}
theorem turnZsl (x : Str) (ys : List V) (t : Tok) (z TI TO i1 i2 b : Addr) (S : ZipSep2 z TI TO i1 i2 [i1] [i2, b]) (hne : b ≠ i2) : Turn P w K (.Tuple elts kk tpos) (Izsl K x b ys) [z, TI, TO, i1, i2] z
    (fun i h => IsZip h z TI TO .none ∧ IsTupOf2 h TI (.ref i1) (.ref i2) ∧ (∃ a1 a2, IsTupOf2 h TO a1 a2) ∧ h.IsStrIter i1 (strIterType x) x t i ∧ h.IsListIter i2 b i) where
  mem := List.mem_cons_self ..
  obj := fun i h st c hc => by
    obtain ⟨hz, hTI, ⟨a1, a2, hTO⟩, ⟨o1, e1, _, d1⟩, ⟨o2, e2, _, d2⟩⟩ := st
    rcases five_mem hc with q | q | q | q | q
    · rw [q]; exact ⟨_, hz, fun v q => nomatch q⟩
    · rw [q]; exact ⟨_, hTI, fun v q => nomatch q⟩
    · rw [q]; exact ⟨_, hTO, fun v q => nomatch q⟩
    · rw [q]; exact ⟨o1, e1, fun v q => by rw [d1] at q; cases q⟩
    · rw [q]; exact ⟨o2, e2, fun v q => by rw [d2] at q; cases q⟩
  keep := fun i h h' st k => by
    obtain ⟨hz, hTI, ⟨a1, a2, hTO⟩, h1, h2⟩ := st
    exact ⟨k z (by simp) _ hz, k TI (by simp) _ hTI, ⟨a1, a2, k TO (by simp) _ hTO⟩, si_at h1 fun o q => k i1 (by simp) o q, h2.at fun o q => k i2 (by simp) o q⟩
  item := by
    intro X hP hw hK hc i pins s σ H E I hf st hg
    subst hP hw hK
    obtain ⟨hz, hTI, ⟨a1, a2, hTO⟩, h1, h2⟩ := st
    obtain ⟨its, rv, p, _⟩ := I.list hg.2.2
    have D1 := Draws.text (prog := X.prog) (w := X.w) (A := X.A.in1) (I.ok.hd hc) i1 x t
    have D2 := Draws.list (prog := X.prog) (w := X.w) (A := X.A.in1) (I.ok.hd hc) i2 b hne its.toArray
    have hzl : z < s.heap.objs.size := Heap.lt_size hz
    have l1 : i1 < s.heap.objs.size := by
      obtain ⟨o, e, _⟩ := h1
      exact Heap.lt_size e
    have l2 : i2 < s.heap.objs.size := by
      obtain ⟨o, e, _⟩ := h2
      exact Heap.lt_size e
    have hlen := rv.length
    refine wpAny_pyNext_zipD2_item S D1 D2 hz hTI hTO h1 ⟨h2, p.isList⟩ hg.1 (by rw [List.size_toArray, ← hlen]; exact hg.2.1) fun y1 y2 h' tk ⟨c, u1, hc1, ev1⟩ hy2 b1 b2 s1 s2 hT hsz hk => ?_
    subst ev1
    have hy3 : its[i]? = some y2 := by simpa using hy2
    have hyi : ys[i]? = some (ys[i]'hg.2.1) := List.getElem?_eq_getElem hg.2.1
    obtain ⟨u2, hu2, ru2⟩ := rv.get hyi
    obtain rfl : u2 = y2 := Option.some.inj (hu2.symm.trans hy3)
    refine ⟨_, rfl, wpAny_letOwnedTupleGo_zip (s := { s with heap := h', toks := tk }) b1 fun h'' z'' sb => ?_⟩
    have hT2 : h''.get? s.heap.objs.size = some { cls := .type "tuple", data := .seq #[.str ⟨#[c]⟩ u1, u2] } := (sb.2 _ (Nat.ne_of_gt hzl)).trans hT
    have new : ObjOk X.prog X.w (upd H s.heap.objs.size (.tup [.str ⟨#[c]⟩, ys[i]'hg.2.1])) h'' s.heap.objs.size (.tup [.str ⟨#[c]⟩, ys[i]'hg.2.1]) :=
      ⟨(by show 2 ≤ sizeLine; decide), [.str ⟨#[c]⟩ u1, u2], .cons ⟨_, rfl⟩ (.cons ru2 .nil), ⟨_, hT2, rfl, _, rfl⟩⟩
    have I1 : Inv X pins σ (upd H s.heap.objs.size (.tup [.str ⟨#[c]⟩, ys[i]'hg.2.1])) { s with heap := h'', toks := tk } := by
      refine I.turnedNew (ch := [z, TI, TO, i1, i2]) (fun b ob nb q => ?_) hf (Nat.le_refl _) new
      exact (sb.2 b (fun q' => nb (by simp [q']))).trans (hk b ob (fun q' => nb (by simp [q'])) (fun q' => nb (by simp [q'])) (fun q' => nb (by simp [q'])) (fun q' => nb (by simp [q'])) q)
    refine ⟨.ref s.heap.objs.size, _, I1, rfl, ⟨_, c, _, rfl, I.hok.fresh (Nat.le_refl _), rfl, hc1, hyi⟩, ⟨z'', ?_, ⟨.str ⟨#[c]⟩ u1, u2, ?_⟩, ?_, ?_⟩, fun b hb => ?_⟩
    · exact (sb.2 _ S.TIz).trans (hk _ _ S.TIz S.TITO S.TIi1 S.TIi2 hTI)
    · exact (sb.2 _ S.TOz).trans b2
    · exact si_at s1 fun o q => (sb.2 _ S.zi1.symm).trans q
    · exact s2.1.at fun o q => (sb.2 _ S.zi2.symm).trans q
    · have hlt : b < s.heap.objs.size := by
        rcases five_mem hb with q | q | q | q | q
        · rw [q]; exact hzl
        · rw [q]; exact Heap.lt_size hTI
        · rw [q]; exact Heap.lt_size hTO
        · rw [q]; exact l1
        · rw [q]; exact l2
      rw [upd_ne (Nat.ne_of_lt hlt)]
      exact (hf b hb).1
  done := by
    intro X hP hw hK hc i pins s σ H E I hf st hg
    subst hP hw hK
    obtain ⟨hz, hTI, ⟨a1, a2, hTO⟩, h1, h2⟩ := st
    obtain ⟨its, rv, p, _⟩ := I.list hg.2.2.2
    have hlen := rv.length
    have D1 := Draws.text (prog := X.prog) (w := X.w) (A := X.A.in1) (I.ok.hd hc) i1 x t
    have D2 := Draws.list (prog := X.prog) (w := X.w) (A := X.A.in1) (I.ok.hd hc) i2 b hne its.toArray
    exact wpAny_pyNext_zipD2_end S D1 D2 hz hTI hTO h1 ⟨h2, p.isList⟩ hg.1 (by rw [List.size_toArray, ← hlen]; exact hg.2.1) (by have h9 := hg.2.2.1; rw [hlen] at h9; exact h9) fun h' tk hk => ⟨rfl, I.turnedL (t' := tk) (ch := [z, TI, TO, i1, i2]) (fun c o hb q =>
      hk c o (fun q' => hb (by simp [q'])) (fun q' => hb (by simp [q'])) (fun q' => hb (by simp [q'])) (fun q' => hb (by simp [q'])) q) hf⟩
  self := fun A i s Q E st h => wpAny_pyIter_zip st.1 h
theorem sep_nl (n b : Nat) (h : b < n) : ZipSep2 (n + 4) (n + 2) (n + 3) n (n + 1) [n] [n + 1, b] := by
  have two : ∀ c : Addr, c ∈ [(show Addr from n + 1), (show Addr from b)] → c = (show Addr from n + 1) ∨ c = (show Addr from b) := fun c h => by simpa using h
  have no : ∀ m : Nat, m ≠ n + 1 → m ≠ b → (show Addr from m) ∉ [(show Addr from n + 1), (show Addr from b)] := fun m h1 h2 h => (two _ h).elim h1 h2
  exact ⟨ne_nat (by omega), ne_nat (by omega), ne_nat (by omega), ne_nat (by omega), List.mem_singleton.mpr rfl, fun h => absurd (List.mem_singleton.mp h) (ne_nat (by omega)), fun h => absurd (List.mem_singleton.mp h) (ne_nat (by omega)),
    ne_nat (by omega), List.mem_cons_self .., no _ (by omega) (by omega), no _ (by omega) (by omega), no _ (by omega) (by omega), fun h => absurd (List.mem_singleton.mp h) (ne_nat (by omega))⟩
def iZipSL (K : PySem.W.Frag) (ta : TA) : TI := fun σ H R => ta σ H fun vs H1 => ∃ x b ys, vs = [.str x, .ref b] ∧ SqL K H1 b ys ∧ R (Izsl K x b ys) H1
theorem pi_zipSL {X : Cx} {e e2 : Expr} {ta : TA} {p pos tpos : Pos} {elts : List Expr} {kk : Nat} (hg : Gl X "zip") (hm : X.mg "zip" = none) (ha : PA X [e, e2] ta)
    (hs : starEach [e, e2] X.env = (false, eval e X.env) :: starEach [e2] X.env := by rfl) (hpl : (backTo pos (starEach [e2] X.env)).any (·.1) = false := by rfl) :
    PI X (.Tuple elts kk tpos) (.Call (.Name "zip" p) [e, e2] [] pos) (iZipSL X.K ta) := by
  refine ⟨fun pins s σ H R I h => ?_⟩
  refine Call_ (ld_blt I hg hm PyProof.Rows.boot_zip (PyProof.Rows.callWith_type1 (thn (ha.run pos pins s σ H _ I h) fun us s1 ⟨vs, H1, I1, r1, q1⟩ => ?_) hs hpl))
  obtain ⟨x, b, ys, ex, hb, q⟩ := q1
  subst ex
  cases r1 with
  | cons r rr =>
    cases rr with
    | cons r' rr =>
      cases rr
      obtain ⟨t, rfl⟩ := r
      cases r'
      obtain ⟨its, rv, p1, _⟩ := I1.list hb
      refine zip_begins2 (begins_text x t) (begins_list b its.toArray) trivial p1.isList fun h' hz hTI hTO g1 g2 hsz hk => wpAny_pyIter_zip hz ?_
      have I2 : Inv X pins σ H1 { s1 with heap := h' } := I1.kept (t' := s1.toks) hk
      have S := sep_nl s1.heap.objs.size b p1.lt
      refine ⟨s1.heap.objs.size + 4, [s1.heap.objs.size + 4, s1.heap.objs.size + 2, s1.heap.objs.size + 3, s1.heap.objs.size, s1.heap.objs.size + 1], _, _, H1, rfl, I2, turnZsl x ys t _ _ _ _ _ b S (fun e => absurd (show (show Nat from b) = s1.heap.objs.size + 1 from e) (by have h9 : (show Nat from b) < s1.heap.objs.size := p1.lt; omega)), ⟨hz, hTI, ⟨_, _, hTO⟩, ⟨_, g1, rfl, rfl⟩, ⟨_, g2, rfl, rfl⟩⟩, fun c hcm => ?_, q⟩
      have hle : s1.heap.objs.size ≤ c := by
        rcases five_mem hcm with z | z | z | z | z
        · rw [z]; exact Nat.le_add_right _ _
        · rw [z]; exact Nat.le_add_right _ _
        · rw [z]; exact Nat.le_add_right _ _
        · rw [z]; exact Nat.le_refl _
        · rw [z]; exact Nat.le_add_right _ _
      exact I1.fpOk hle (I1.hok.fresh hle)
theorem walk_zsl {x : Str} {b : Addr} {ys : List V} : Walk (Izsl K x b ys) (min x.cps.size ys.length) (fun H => SqL K H b ys) (YPair (fun i => (x.cps.toList[i]?).map fun c => V.str ⟨#[c]⟩) (fun i => ys[i]?)) := by
  refine ⟨fun i _ hi q => ?_, fun _ q => ?_, fun i H v H' hi q y' => ?_⟩
  · exact ⟨by omega, by omega, q⟩
  · exact ⟨by omega, by omega, by omega, q⟩
  obtain ⟨T, c, d, h1, h2, h3, h4, h5⟩ := y'
  refine ⟨T, .str ⟨#[c]⟩, d, h1, h2, h3, ?_, h5⟩
  show Option.map _ (x.cps.toList[i]?) = _
  rw [Array.getElem?_toList, h4]
  rfl
/-! ### lists of tuples -/
structure TpAt (H : Hp) (xs : List V) (ps : List (List V)) : Prop where
  len : xs.length = ps.length
  row : ∀ (i : Nat) (p : List V), ps[i]? = some p → ∃ r, xs[i]? = some (V.ref r) ∧ H r = some (.tup p)
theorem TpAt.mono {H H' : Hp} {xs : List V} {ps : List (List V)} (h : TpAt H xs ps) (e : Ex H H') : TpAt H' xs ps := ⟨h.len, fun i p q => by
  obtain ⟨r, a, b⟩ := h.row i p q
  exact ⟨r, a, e _ _ b⟩⟩
theorem TpAt.upd {H : Hp} {xs : List V} {ps : List (List V)} {l : Addr} {o u : HO} (h : TpAt H xs ps) (hl : H l = some u) (hu : ∀ ys, u ≠ .tup ys) : TpAt (upd H l o) xs ps := ⟨h.len, fun i p q => by
  obtain ⟨r, a, b⟩ := h.row i p q
  refine ⟨r, a, ?_⟩
  rw [upd_ne]
  · exact b
  · intro z
    rw [z, hl] at b
    exact hu _ (Option.some.inj b)⟩
theorem TpAt.nil {H : Hp} : TpAt H [] [] := ⟨rfl, fun i p q => by simp at q⟩
theorem TpAt.snoc {H : Hp} {xs : List V} {ps : List (List V)} {r : Addr} {p : List V} (h : TpAt H xs ps) (hr : H r = some (.tup p)) : TpAt H (xs ++ [.ref r]) (ps ++ [p]) := by
  refine ⟨by rw [List.length_append, List.length_append, h.len]; rfl, fun i q e => ?_⟩
  by_cases hi : i < ps.length
  · rw [List.getElem?_append_left hi] at e
    obtain ⟨r', a, b⟩ := h.row i q e
    exact ⟨r', by rw [List.getElem?_append_left (by rw [h.len]; exact hi)]; exact a, b⟩
  · have h1 := (List.getElem?_eq_some_iff.mp e).1
    rw [List.length_append] at h1
    have e2 : i = ps.length := by
      simp at h1
      omega
    subst e2
    have e3 : p = q := by simpa using e
    subst e3
    refine ⟨r, ?_, hr⟩
    rw [← h.len]
    simp
/-- a new list of new tuples over zip(a text, a list) -/
theorem run_lcZ {σ : L2.St} {H : Hp} {te : TE} {x : List Nat} {b : Addr} {ys : List V} {tp : TA} {j1 j2 : Nat} {vs : List Nat} {Q : VK} (v : Nat → List V) (h : EvA tp σ H [tx x, .ref b]) (hy : SqL K H b ys) (hl : ys.length = x.length) (hz : x.length ≤ 40000)
    (hw : ∀ a b, wipe (((wipe σ vs).set j1 (some a)).set j2 (some b)) vs = wipe σ vs)
    (he : ∀ (i c : Nat) (y : V) H1, Ex H H1 → x[i]? = some c → ys[i]? = some y → EvU te (((wipe σ vs).set j1 (some (tx [c]))).set j2 (some y)) H1 (v i))
    (k : ∀ l xs H1, H l = none → Ex H H1 → H1 l = some (.lst xs) → TpAt H1 xs ((List.range x.length).map v) → Q (.ref l) H1) :
    tLc (iZipSL K tp) (gTup K 2 (gCons (gName j1) (gCons (gName j2) gNil))) tYes te vs σ H Q := h H (Ex.refl H) _ fun H1 e1 => ⟨SX.S x, b, ys, rfl, ex_l e1 hy, fun Dl hD => by
  have hn : min (SX.S x).cps.size ys.length = x.length := by
    show min x.toArray.size ys.length = _
    rw [List.size_toArray, hl, Nat.min_self]
  have hD0 : H Dl = none := fresh_back e1 hD
  refine lc_it walk_zsl (fun i H' => Ex H H' ∧ ∃ xs, H' Dl = some (.lst xs) ∧ TpAt H' xs ((List.range i).map v)) ⟨e1.trans (Ex.new hD), [], upd_same, .nil⟩ (fun i H' _ p => ex_l p.1 hy) (fun i z H' H2 hi p yp => ?_) (fun H' p => ?_)
  · obtain ⟨T, a, d, rfl, hT, rfl, ha, hd⟩ := yp
    obtain ⟨p1, xs, p2, p3⟩ := p
    have ha2 : (x[i]?).map (fun c => tx [c]) = some a := ha
    have hd2 : ys[i]? = some d := hd
    cases hx : x[i]? with
    | none =>
      rw [hx] at ha2
      cases ha2
    | some c =>
    rw [hx] at ha2
    cases ha2
    have hxl := (List.getElem?_eq_some_iff.mp hx).1
    have e2 : Ex H (L2.upd H' T (.tup [tx [c], d])) := p1.trans (Ex.new hT)
    refine ⟨T, _, rfl, st_of upd_same, rfl, _, _, rfl, _, _, rfl, rfl, hw _ _, ?_⟩
    refine et_yes _ (Ex.refl _) _ fun H3 e3 => ?_
    rw [if_pos rfl]
    have e3' : Ex H H3 := e2.trans e3
    refine he i c d H3 e3' hx hd2 H3 (Ex.refl _) _ fun r H4 hr e4 h4 => ?_
    have g4 := e4 _ _ (e3 _ _ (Ex.new hT _ _ p2))
    have hlen := p3.len
    rw [List.length_map, List.length_range] at hlen
    refine ⟨xs, g4, sz_lt (by omega), (e3'.trans e4).mut hD0, xs ++ [.ref r], upd_same, ?_⟩
    rw [List.range_succ, List.map_append]
    have hTp := ((p3.mono ((Ex.new hT).trans (e3.trans e4))).snoc h4)
    exact hTp.upd g4 (fun ys => by intro z; cases z)
  · rw [hn] at p
    obtain ⟨p1, xs, p2, p3⟩ := p
    exact k Dl xs H' hD0 p1 p2 p3⟩
end
/-! ### text.find(text, start) -/
section
theorem take_getD {l : List Nat} {i : Nat} (h : i < l.length) : l[i]? = some (l.getD i 0) := by
  rw [List.getD_eq_getElem?_getD, List.getElem?_eq_getElem h]
  rfl
end
end Ver
namespace Ver
open PySem PySem.Spec PyProof.Rows L2 Evl
/-! ### math.isqrt -/
def rIsq : List V → Hp → VK → Prop := fun vs H Q => ∃ a : Int, vs = [.int a] ∧ 0 ≤ a ∧ a < 2 ^ 200 ∧ ∀ r : Nat, r * r ≤ a.toNat → a.toNat < (r + 1) * (r + 1) → Q (.int (r : Int)) H
theorem Vals.int1 {a : Int} {us : List Value} (r : Vals [.int a] us) : ∃ t, us = [.int a t] := by
  cases r with
  | cons h t =>
    cases t
    obtain ⟨t, rfl⟩ := h
    exact ⟨t, rfl⟩
theorem cr_isqrt {X : Cx} : CallR X (.builtin "math.isqrt") rIsq := by
  intro pins s σ H vs us Q I r h
  obtain ⟨a, rfl, h0, h1, q⟩ := h
  obtain ⟨t, rfl⟩ := Vals.int1 r
  have hl : a.toNat.log2 ≤ 199 := PySem.W.mg_log (by
    have : (a.toNat : Int) < 2 ^ 200 := by omega
    exact_mod_cast this)
  obtain ⟨k1, k2⟩ := PySem.Float64.isqrt_spec a.toNat
  exact PySem.call_function_meets PySem.W.MGF.kind_isqrt PySem.W.MGF.plain_isqrt PySem.W.MGF.entry_isqrt (PySem.W.MGF.args_isqrt _) (PySem.W.mg_run_isqrt a t (by omega) (by omega) (by omega)).meets ⟨.int _, H, I.tok _, ⟨_, rfl⟩, q _ k1 k2⟩
theorem q_asgX {σ : L2.St} {H : Hp} {D : Ends} {tz : TS} {te : TE} {i : Nat} (h : te σ H fun x H1 => tz D (σ.set i (some x)) H1) : tSeq (tAsg te (gName i)) tz D σ H := h
/-- a list made over enumerate(a list) -/
theorem el_lcEn {σ : L2.St} {H : Hp} {K : PySem.W.Frag} {te : TE} {a : Addr} {xs : List V} {tp : TA} {j1 j2 : Nat} {vs : List Nat} (v : Nat → V) (h : EvA tp σ H [.ref a]) (hx : SqL K H a xs) (hz : xs.length ≤ 40000)
    (hw : ∀ a b, wipe (((wipe σ vs).set j1 (some a)).set j2 (some b)) vs = wipe σ vs)
    (he : ∀ (i : Nat) (x : V) H1, Ex H H1 → xs[i]? = some x → Ev te (((wipe σ vs).set j1 (some (.int (i : Int)))).set j2 (some x)) H1 (v i)) :
    EvL (tLc (iEnum K tp) (gTup K 2 (gCons (gName j1) (gCons (gName j2) gNil))) tYes te vs) σ H ((List.range xs.length).map v) := fun H0 e Q q => h H0 e _ fun H1 e1 => ⟨a, xs, rfl, ex_l (e.trans e1) hx, fun Dl hD => by
  refine lc_it (walk_enum (xs := xs)) (Cw H1 (fun _ => true) v Dl) ⟨hD, Ex.new hD, upd_same⟩ (fun i H' _ p => ex_l (((e.trans e1).trans p.2.1)) hx) (fun i z H' H2 hi p yp => ?_) (fun H' p => ?_)
  · obtain ⟨T, c, d, rfl, hT, rfl, ha, hb⟩ := yp
    obtain rfl := Option.some.inj ha
    have hb2 : xs[i]? = some d := hb
    have hxl := (List.getElem?_eq_some_iff.mp hb2).1
    have p2 : Cw H1 (fun _ => true) v Dl i (L2.upd H' T (.tup [.int (i : Int), d])) := ⟨p.1, p.2.1.trans (Ex.new hT), Ex.new hT _ _ p.2.2⟩
    exact ⟨T, _, rfl, st_of upd_same, rfl, _, _, rfl, _, _, rfl, rfl, hw _ _, cw_turn p2 (by omega) et_yes fun _ => he i d H1 (e.trans e1) hb2⟩
  · have e9 := given_all xs.length v
    have p3 := p.2.2
    rw [e9] at p3
    exact q Dl H' (fresh_back e1 p.1) (e1.trans p.2.1) p3⟩
theorem root_ex {a : Int} (h : 0 ≤ a) : ∃ r : Nat, (r : Int) * r ≤ a ∧ a < ((r : Int) + 1) * (r + 1) := by
  obtain ⟨k1, k2⟩ := PySem.Float64.isqrt_spec a.toNat
  refine ⟨PySem.Float64.isqrt a.toNat, ?_, ?_⟩
  · have : ((PySem.Float64.isqrt a.toNat * PySem.Float64.isqrt a.toNat : Nat) : Int) ≤ a := by omega
    rw [Int.natCast_mul] at this
    exact this
  · have : a < (((PySem.Float64.isqrt a.toNat + 1) * (PySem.Float64.isqrt a.toNat + 1) : Nat) : Int) := by omega
    rw [Int.natCast_mul, Int.natCast_add] at this
    exact this
/-- a def's call with a value and a new list -/
theorem ev_cVL {σ : L2.St} {H : Hp} {sp : Sp} {E : XK} {t1 tl : TE} {x1 y : V} {xs : List V} (h1 : Ev t1 σ H x1) (hl : EvL tl σ H xs) (hs : ∀ p H1, Ex H H1 → H1 p = some (.lst xs) → SpV sp ([x1, .ref p] ++ []) H1 y) : Ev (tCall sp [] E (tCons t1 (tCons tl tNil))) σ H y := fun H0 e Q q =>
  h1 H0 e _ fun H1 e1 => hl H1 (e.trans e1) _ fun p H2 hp e2 g2 => hs p H2 ((e.trans e1).trans e2) g2 H2 (Ex.refl H2) Q (fun H3 e3 => q H3 ((e1.trans e2).trans e3)) _
theorem sum_cast {α : Type} (f : α → Nat) : ∀ l : List α, (l.map fun x => ((f x : Nat) : Int)).sum = ((l.map f).sum : Int)
  | [] => rfl
  | a :: l => by
    rw [List.map_cons, List.map_cons, List.sum_cons, List.sum_cons, sum_cast f l, Int.natCast_add]
/-! ### own methods -/
structure AtM (K : PySem.W.Frag) (C : Addr) (m q : Str) (st : Stmt) : Prop where
  ex : ∃ f fd, Fun K m q st f fd ∧ Meth K C m f
def HasM (P : Program) (w : World) (K : PySem.W.Frag) (mg : Str → Option Value) (base : Heap) (C : Addr) (m : Str) (ps : List Str) (k : Nat) (sp : Sp) : Prop :=
  ∃ f fd, FnOk P w K mg base CX0 k f fd ps sp ∧ Binds K fd ps [] ∧ Meth K C m f
section
variable {σ : L2.St} {H : Hp}
theorem ev_isqrt {ta : TE} {a : Int} {Q : V → Prop} (ha : Ev ta σ H (.int a)) (h0 : 0 ≤ a) (h1 : a < 2 ^ 200) (r : Nat) (hr : (r : Int) * r ≤ a) (hr2 : a < ((r : Int) + 1) * (r + 1)) : Ev (tCB rIsq (tCons ta tNil)) σ H (.int (r : Int)) := fun H1 e Q q =>
  ha H1 e _ fun H2 e2 => ⟨a, rfl, h0, h1, fun s k1 k2 => by
    have e1 : s = r := by
      have a1 : s * s < (r + 1) * (r + 1) := by
        have : ((s * s : Nat) : Int) < (((r + 1) * (r + 1) : Nat) : Int) := by
          rw [Int.natCast_mul, Int.natCast_mul, Int.natCast_add]
          have : ((s * s : Nat) : Int) ≤ a := by omega
          rw [Int.natCast_mul] at this
          exact Int.lt_of_le_of_lt this hr2
        omega
      have a2 : r * r < (s + 1) * (s + 1) := by
        have : ((r * r : Nat) : Int) ≤ a := by
          rw [Int.natCast_mul]
          exact hr
        omega
      have b1 : s < r + 1 := Classical.byContradiction fun c => absurd (Nat.mul_le_mul (show r + 1 ≤ s by omega) (show r + 1 ≤ s by omega)) (by omega)
      have b2 : r < s + 1 := Classical.byContradiction fun c => absurd (Nat.mul_le_mul (show s + 1 ≤ r by omega) (show s + 1 ≤ r by omega)) (by omega)
      omega
    rw [e1]
    exact q H2 e2⟩
/-- the call of an own method -/
theorem ev_meth {C a dx : Addr} {fs : List (Str × V)} {m : Str} {sp : Sp} {ta : TE} {t : TA} {vs : List V} {v : V} {E : XK} (ha : Ev ta σ H (.ref a)) (hi : H a = some (.ins C dx fs)) (hl : fs.lookup m = none) (ht : EvA t σ H vs) (h : ∀ H1, Ex H H1 → ∀ Q : VK, (∀ H2, Ex H1 H2 → Q v H2) → sp (.ref a :: (vs ++ [])) H1 Q E) :
    Ev (tMeth C m sp [] E ta t) σ H v := fun H1 e Q q => ha H1 e _ fun H2 e2 => ⟨a, dx, fs, rfl, (e.trans e2) _ _ hi, hl, ht H2 (e.trans e2) _ fun H3 e3 => h H3 ((e.trans e2).trans e3) Q fun H4 e4 => q H4 ((e2.trans e3).trans e4)⟩
end
end Ver
namespace Ver
open PySem PySem.Spec PyProof.Rows L2
/-! ### try: .. except X as n: .. except Y as n: .. -/
def asEnds (i : Nat) (D : Ends) : Ends := { nx := fun σ' H' => D.nx (σ'.set i none) H', rt := D.rt, bk := fun σ' H' => D.bk (σ'.set i none) H', ct := fun σ' H' => D.ct (σ'.set i none) H' }
abbrev Suite := Addr → Value → Option Addr → TS
/-- what the clauses wish of an error of the body, one after the other; slot i is their name's -/
def wMas (K : PySem.W.Frag) (i : Nat) (Wout : WX) (D : Ends) : List (Value × Suite) → WX
  | [] => Wout
  | (c, ts) :: r => fun cls d σ H => ∃ b, PySem.W.exmOne K cls c = some b ∧ (b = true → ∀ a, H a = none → ts a cls d (asEnds i D) (σ.set i (some (.ref a))) H) ∧ (b = false → wMas K i Wout D r cls d σ H)
inductive HdsAs (X : Cx) (n : Str) : List ExceptHandler → List (Value × Suite) → Prop
  | nil : HdsAs X n [] []
  | cons {x : Str} {c : Value} {ts : Suite} {b₀ : Stmt} {suite : List Stmt} {np pos' : Pos} {hds : List ExceptHandler} {l : List (Value × Suite)} (hc : Names X x c)
      (hsu : ∀ (a : Addr) (oe : Obj) (cls : Value) (d : Option Addr) (pn : List (Addr × Obj)), Zc cls d oe → (∃ vs, oe.data = .fields vs) → PSs (X.suite a ((a, oe) :: pn)) (b₀ :: suite) (ts a cls d)) (r : HdsAs X n hds l) :
      HdsAs X n (.ExceptHandler (some (.Name x np)) (some n) (b₀ :: suite) pos' :: hds) ((c, ts) :: l)
section
variable {X : Cx} {body : List Stmt} {n : Str} {i : Nat} {h₀ : ExceptHandler} {hds : List ExceptHandler} {l : List (Value × Suite)} {pos : Pos} {tb : WX → TS} {Wout : WX}
theorem ps_try_mas (hs : X.stack = X.env :: X.outer) (hf : X.env.frame = some X.env.locals) (hN : X.N.Nodup) (hi : X.N[i]? = some n) (hln : X.env.kindOf n = some .local) (tk : Takes X Wout)
    (hb : ∀ (W : WX) (pn : List (Addr × Obj)) (xe : Value → Shared → Prop), Takes (X.tr pn xe) W → PassesOwn (model X.prog X.w) X.A X.env xe → PSs (X.tr pn xe) body (tb W))
    (hh : HdsAs X n (h₀ :: hds) l) : PS X (.Try body (h₀ :: hds) [] [] pos) (fun D σ H => tb (wMas X.K i Wout D l) D σ H) := by
  refine ⟨fun pins s σ H D I h => ?_⟩
  have ok := I.ok
  have hfr : X.A.frames = some (X.env :: X.outer) := by rw [ok.frames, hs]
  have hloc : Loc X.env.scope n := .inl hln
  refine wpAny_Try_except ?_
  refine wpAny_mono ((hb (wMas X.K i Wout D l) (X.pn ++ pins) (fun e s₁ => wpAny (model X.prog X.w) X.A (noteFrame e X.env) (fun _ s₂ => wpAny (model X.prog X.w) X.A (setFlight e none) (fun _ s₃ =>
    wpAny (model X.prog X.w) X.A (handleBy e X.env (h₀ :: hds)) (SP X pins D) X.xe s₃) X.xe s₂) X.xe s₁) (fun u s' xx => ?_) PassesOwn.looking).run [] s σ H D (I.toTry _) h) (fun f s1 hsp => ?_) (fun e s1 he => he)
  · obtain ⟨a, B, sI, pins', σ', H', cls, d, rfl, J', nb, up, sky, na, os, ag, w⟩ := xx
    have J : Inv X pins σ' H' sI := J'.ofTry ok
    have sky' : Sky B (X.env :: X.outer) a (Zc cls d) X.env.locals s'.heap := by rw [← hs]; exact sky
    show wpAny (model X.prog X.w) X.A (noteFrame (.ref a) X.env) _ _ _
    refine Sky.land Zc.steady hfr hf sky' fun h3 fl3 up3 => ?_
    have J3 : Inv X pins σ' H' { s' with heap := h3 } := J.landed nb fl3.1 (up.trans up3) os ag
    obtain ⟨oe3, vs3, he3, hz3, hd3⟩ := fl3.there
    have notFr : ∀ {h : Heap} {o : Obj} {vs : Array Value}, h.FunFrames B (X.env :: X.outer) → h.get? a = some o → o.data = .fields vs → a ∉ frs (X.env :: X.outer) := fun {h o vs} ff e dd hm => by
      obtain ⟨_, o', e', hnf⟩ := ff.mem hm
      rw [e] at e'; cases e'
      exact hnf _ dd
    have nfr := notFr fl3.2.2.1 he3 hd3
    have nL : a ≠ X.env.locals := fun z => nfr (List.mem_filterMap.mpr ⟨X.env, List.mem_cons_self, by rw [hf, z]⟩)
    have nF : a ∉ X.fs := fun hm => by
      obtain ⟨e, he, q⟩ := List.mem_filterMap.mp hm
      exact nfr (List.mem_filterMap.mpr ⟨e, List.mem_cons_of_mem _ he, q⟩)
    have S3 := J3.suite he3 hd3 na nL nF
    have go : ∀ {hds' : List ExceptHandler} {l' : List (Value × Suite)}, HdsAs X n hds' l' → wMas X.K i Wout D l' cls d σ' H' →
        wpAny (model X.prog X.w) X.A (handleBy (.ref a) X.env hds') (SP X pins D) X.xe { s' with heap := h3 } := by
      intro hds' l' hk
      induction hk with
      | nil =>
        intro w
        refine wpAny_handleBy_nil ?_
        obtain ⟨k1, k2, k3, oe, vs, T, oT, ts', he, hz, hd, h1, hr⟩ := id fl3
        unfold PySem.passOn
        refine wpAny_bind (wpAny_field he hd h1 ?_)
        rw [if_neg (show ¬ ((Value.ref T == Value.none) = true) from by simp)]
        have fin : wpAny (model X.prog X.w) X.A (setFlight (.ref a) X.env.frame) (fun _ s4 => wpAny (model X.prog X.w) X.A (throw (.ref a) : Sem Flow) (SP X pins D) X.xe s4) X.xe { s' with heap := h3 } := by
          rw [hf]
          refine HandSPX.setFlight_upZ fl3 fun h4 hh4 up4 => wpAny_throw (tk _ _ ?_)
          exact ⟨a, B, sI, pins, σ', H', cls, d, rfl, J, nb, (up.trans up3).trans up4, .inr (.inr (by rw [hs]; exact hh4)), na, os, ag, w⟩
        first
          | exact wpAny_bind (wpAny_pure (wpAny_bind fin))
          | exact wpAny_bind fin
      | @cons x c ts b₀ suite np pos' hds2 l2 hc hsu r ih =>
        intro w
        obtain ⟨b, hb1, hyes, hno⟩ := w
        refine wpAny_handleBy_cons (codeAny_handlers_test ?_) (by intro q; cases q)
        have LT : PySem.W.Looks (model X.prog X.w) h3 (typeOf (.ref a)) cls := fun A Q E s k q => wpAny_typeOf_ref (k _ _ he3) (by rw [hz3.1]; exact q)
        have LM := PySem.W.exm_one (M := model X.prog X.w) (J3.kIn) LT hb1
        have test : ∀ {Q : Value → Shared → Prop} {E : Value → Shared → Prop}, Q c { s' with heap := h3 } → wpAny (model X.prog X.w) (X.A.mark (some (.ref a))) (eval (.Name x np) X.env) Q E { s' with heap := h3 } := fun {Q E} q => by
          obtain ⟨hg, hdbg, hm | ⟨hm, hv, hnn⟩⟩ := hc
          · exact ld_glob (X := X.suite a ((a, oe3) :: (X.pn ++ pins))) S3 hg hm q hdbg
          · exact ld_blt (X := X.suite a ((a, oe3) :: (X.pn ++ pins))) S3 hg hm hv q hnn hdbg
        refine test (LM.here ?_)
        cases b with
        | true =>
          refine codeAny_handlers_suite_as ?_
          refine HandSPX.lands_againZ fl3 fun h4 fl4 up4 => ?_
          have J4 : Inv X pins σ' H' { s' with heap := h4 } := J.landed nb fl4.1 ((up.trans up3).trans up4) os ag
          obtain ⟨oe4, vs4, he4, hz4, hd4⟩ := fl4.there
          have S4 := J4.suite he4 hd4 na nL nF
          refine store_ok (X := X.suite a ((a, oe4) :: (X.pn ++ pins))) (v := .ref a) S4 hN hi hloc rfl (fun s5 S5 => ?_) (.inr hln)
          refine wpAny_mono ((hsu a oe4 cls d (X.pn ++ pins) hz4 ⟨_, hd4⟩).run [] s5 _ H' _ S5 (hyes rfl a na)) (fun f s6 hsp => ?_) (fun _ _ z => False.elim z)
          have end_ : ∀ {σ6 : L2.St} {H6 : Hp} {Q : Shared → Prop}, Inv (X.suite a ((a, oe4) :: (X.pn ++ pins))) [] σ6 H6 s6 → (∀ s7, Inv X pins (σ6.set i none) H6 s7 → Q s7) →
              wpAny (model X.prog X.w) X.A (do bindName X.env n .none; unbindBehindTheSuite X.env n pos') (fun _ s7 => Q s7) X.xe s6 := fun {σ6 H6 Q} S6 hq => gone_ok (S6.unsuite ok) hN hi hln hq
          cases f with
          | next =>
            obtain ⟨σ6, H6, S6, q6⟩ := hsp
            exact end_ S6 fun s7 J7 => ⟨_, _, J7, q6⟩
          | brk =>
            obtain ⟨σ6, H6, S6, q6⟩ := hsp
            exact end_ S6 fun s7 J7 => ⟨_, _, J7, q6⟩
          | cont =>
            obtain ⟨σ6, H6, S6, q6⟩ := hsp
            exact end_ S6 fun s7 J7 => ⟨_, _, J7, q6⟩
          | ret u =>
            obtain ⟨v6, σ6, H6, S6, r6, q6⟩ := hsp
            exact end_ S6 fun s7 J7 => ⟨_, _, _, J7, r6, q6⟩
        | false =>
          show wpAny _ X.A (handleBy (.ref a) X.env hds2) _ _ _
          exact ih (hno rfl)
    exact go hh w
  · cases f with
    | next =>
      obtain ⟨σ', H', J', q⟩ := hsp
      exact wpAny_execs_nil ⟨σ', H', J'.ofTry ok, q⟩
    | brk =>
      obtain ⟨σ', H', J', q⟩ := hsp
      exact ⟨σ', H', J'.ofTry ok, q⟩
    | cont =>
      obtain ⟨σ', H', J', q⟩ := hsp
      exact ⟨σ', H', J'.ofTry ok, q⟩
    | ret u =>
      obtain ⟨v, σ', H', J', r, q⟩ := hsp
      exact ⟨v, σ', H', J'.ofTry ok, r, q⟩
end
theorem roomM {k : Nat} {A : Around} {v : Option Value} (r : Room k A) : L2H.RoomH k (A.mark v) := ⟨r.dp, r.un⟩
/-! ### a def that is handed the caught error -/
open L2H in
structure FnP (P : Program) (w : World) (K : PySem.W.Frag) (mg : Str → Option Value) (base : Heap) (k : Nat) (f : Addr) (fd : FuncData) (ps : List Str) (sp : Addr → Value → Option Addr → Sp) : Prop where
  len : ∀ a cls d vs H Q E, sp a cls d vs H Q E → vs.length = ps.length
  run : ∀ (A : Around) (outer : List Env) (s : Shared) (H : Hp) (args : Args) (us : List Value) (vs : List V) (Q : VK) (E : XK) (p : Addr × Obj) (cls : Value) (d : Option Addr), RoomH k A → PinOk outer H s p → Zc cls d p.2 → (∃ fv, p.2.data = .fields fv) → Env0 P w K mg base A outer s H → BindsTo s fd args (ps.zip us) → Vals vs us → sp p.1 cls d vs H Q E →
    codeAny (model P w) A (.call (.ref f) args) (CR CX0 outer P w H s Q E) s
open L2H in
theorem fn_ofP {P : Program} {w : World} {K : PySem.W.Frag} {mg : Str → Option Value} {base : Heap} {k : Nat} {f : Addr} {name qual : Str} {params : Arguments} {body : List Stmt} {scope : Scope} {dV kV doc pm cdv ct oc : Value} {an od : Option Addr}
    {osl : Array (Option Value)} {N ps : List Str} {sp : Addr → Value → Option Addr → Sp} (lk : K.lookup f = some ⟨oc, od, .func (PySem.W.fnOf name qual params body scope dV kV doc pm an cdv ct), osl⟩) (hcd : PySem.W.codeIn K cdv qual = true) (S : FnScope N ps scope)
    (len : ∀ a cls d vs H Q E, sp a cls d vs H Q E → vs.length = ps.length)
    (hbody : ∀ (A : Around) (outer : List Env) (s : Shared) (H : Hp) (vs : List V) (Q : VK) (E : XK) (p : Addr × Obj) (cls : Value) (d : Option Addr), Zc cls d p.2 → (∃ fv, p.2.data = .fields fv) → RoomH k (A.deeper (envOfC qual scope s.heap.objs.size f cdv)) → sp p.1 cls d vs H Q E →
      ∃ t, PSs (cxH CX0 P w K mg base N qual scope f cdv A outer s H E p) body t ∧ t { nx := fun _ H' => Q .non H', rt := Q } (L2.start N vs) H) :
    FnP P w K mg base (k + 1) f (PySem.W.fnOf name qual params body scope dV kV doc pm an cdv ct) ps sp := by
  refine ⟨len, fun A outer s H args us vs Q E p cls d hr hpin hz hf e0 hb r hsp => ?_⟩
  have hl := len _ _ _ _ _ _ _ hsp
  have KX : K.In s.heap := e0.mod.kin.keeps fun b o e => (e0.bs b o e).1
  have lim : s.heap.NoLimit := e0.mod.nolimit.keeps fun b o e => (e0.bs b o e).1
  have hkind : ∀ y ∈ ps.zip us, scope.names.lookup y.1 = some .local ∨ (scope.names.lookup y.1 = some .cell ∧ ((cellsFrom (s.heap.objs.size + 1) scope.names []).lookup y.1).isSome = true) := fun ⟨n, v⟩ hy => by
    rcases S.par n (List.of_mem_zip hy).1 with q | q
    · exact .inl q
    · exact .inr ⟨q, PySem.W.cellsFrom_some _ _ _ (.inl q)⟩
  refine codeAny_call_function hr.depth (KX _ _ lk) rfl S.co S.gen rfl (PySem.W.codeRec_of KX hcd) (hb _ _ _ _ ?_)
  refine wpAny_newFunctionEnv_cells S.kind hkind fun env he s1 x => ?_
  subst he
  refine ⟨lim.keeps x.toInCall.keep, codeAny_func ?_⟩
  obtain ⟨t, ht, hq⟩ := hbody A outer s H vs Q E p cls d hz hf (hr.deeper _) hsp
  have I : Inv (cxH CX0 P w K mg base N qual scope f cdv A outer s H E p) [] (L2.start N vs) H s1 := inv_startH S hpin e0 hl r x
  refine wpAny_mono (ht.run [] s1 (L2.start N vs) H _ I hq) (fun fl s' hs => ?_) fun e s' hs => hs
  have fin : ∀ {σ' : L2.St} {H' : Hp} {v : V} {u : Value}, Inv (cxH CX0 P w K mg base N qual scope f cdv A outer s H E p) [] σ' H' s' → RelV v u → Q v H' → CE outer P w H s Q u s' :=
    fun {σ' H' v u} J rv q => ⟨v, H', J.os, J.bare, J.base, J.hok, rv, q⟩
  cases fl with
  | ret u =>
    obtain ⟨v, σ', H', J, rv, q⟩ := hs
    exact fin J rv q
  | next =>
    obtain ⟨σ', H', J, q⟩ := hs
    exact fin (v := V.non) (u := Value.none) J rfl q
  | brk =>
    obtain ⟨_, _, _, q⟩ := hs
    exact False.elim q
  | cont =>
    obtain ⟨_, _, _, q⟩ := hs
    exact False.elim q
section
variable {X : Cx} {k : Nat} {f : Addr} {fd : FuncData} {ps : List Str} {sp : Addr → Value → Option Addr → Sp} {x : Str} {q pos : Pos} {e : Expr} {es : List Expr} {t : TA}
open L2H in
theorem pe_callP {p : Addr × Obj} {a : Addr} {cls : Value} {d : Option Addr} (ea : p.1 = a) (F : FnP X.prog X.w X.K X.mg X.base k f fd ps sp) (hr : RoomH k X.A) (hp : p ∈ X.pn) (hz : Zc cls d p.2) (hf : ∃ fv, p.2.data = .fields fv) (hg : Gl X x) (hm : X.mg x = some (.ref f)) (hk : PySem.W.keepIn X.K (.ref f) = true) (hb : Binds X.K fd ps [])
    (ha : PA X (e :: es) t) (hdb : (x == ("__debug__" : Str)) = false := by decide) (he : starEach (e :: es) X.env = (false, eval e X.env) :: starEach es X.env := by rfl) (hpl : (backTo pos (starEach es X.env)).any (·.1) = false := by rfl) :
    PE X (.Call (.Name x q) (e :: es) [] pos) (tCall (sp a cls d) [] E0 t) := by
  subst ea
  refine ⟨fun pins s σ H Q I h => ?_⟩
  refine wpAny_Call_Name_kw (ld_glob I hg hm ?_ hdb)
  refine PySem.W.callWith_K (h₀ := X.base) I.ok.mod.kin hk (thn (ha.run pos pins s σ H _ I h) fun us s1 ⟨vs, H1, I1, r, h1⟩ => ⟨I1.kIn, ?_⟩) he hpl
  have h : sp p.1 cls d vs H1 Q E0 := by
    have h2 : sp p.1 cls d (vs ++ []) H1 Q E0 := h1
    rw [List.append_nil] at h2
    exact h2
  have hl : us.length = ps.length := by rw [← r.length]; exact F.len _ _ _ _ _ _ _ h
  have b := hb s1 us I1.kIn (by rw [List.append_nil]; exact hl)
  rw [List.append_nil] at b
  have P1 := I1.pin p (List.mem_append_left _ hp)
  have hpin : PinOk X.stack H1 s1 p := ⟨P1.1, P1.2.1, fun hm => (List.mem_cons.mp (I1.stkSub p.1 hm)).elim P1.2.2.1 P1.2.2.2.1, P1.2.2.2.2⟩
  refine wpAny_call (codeAny_mono (F.run X.A X.stack s1 H1 ⟨us, []⟩ us vs Q E0 p cls d hr hpin hz hf I1.env0 b r h) fun r s' hq => ?_)
  cases r with
  | error e => exact hq.elim
  | ok fl =>
    cases fl with
    | ret u => exact I1.after hq
    | next => exact False.elim hq
    | brk => exact False.elim hq
    | cont => exact False.elim hq
end
/-- n.f, n the error at a -/
def tXp (a : Addr) (cls : Value) (d : Option Addr) (C : Addr) (f : Str) (te : TE) : TE := fun σ H Q => te σ H fun x H1 => x = .ref a ∧ cls = .ref C ∧ ∃ (dd : Addr) (fs : List (Str × V)) (v : V), d = some dd ∧ H1 dd = some (.xd fs) ∧ fs.lookup f = some v ∧ Q v H1
theorem pe_xp {X : Cx} {C : Addr} {p : Addr × Obj} {a : Addr} {cls : Value} {d : Option Addr} {e : Expr} {te : TE} {pos : Pos} {n : Str} (ea : p.1 = a) (hp : p ∈ X.pn) (T : XfC X.K C) (hno : PySem.W.findIn X.K (.ref C) n = some none)
    (hz : Zc cls d p.2) (hf : ∃ vs, p.2.data = .fields vs) (he : PE X e te) (hb : attributeBase e n X.env (eval e X.env) = eval e X.env := by rfl) : PE X (.Attribute e n pos) (tXp a cls d C n te) := by
  subst ea
  refine ⟨fun pins s σ H Q I h => ?_⟩
  refine attr_of hb (thn (he.run pins s σ H _ I h) fun u s1 hh => ?_)
  obtain ⟨x, H1, I1, rx, ex, ec, dd, fs, v, ed, ea, l, q⟩ := hh
  subst ex
  obtain rfl : u = Value.ref p.1 := rx
  subst ec
  subst ed
  obtain ⟨ha, _⟩ := I1.pin p (List.mem_append_left _ hp)
  obtain ⟨vs, hd⟩ := hf
  have hx : ObjOk X.prog X.w H1 s1.heap dd (.xd fs) := I1.hok dd _ ea
  obtain ⟨mA, hns, hr⟩ := hx
  obtain ⟨od, ho, hl⟩ := lookIn_ns hns
  obtain ⟨u, hu, ru⟩ := RelO.some_of (v := v) (o := mA n) (by rw [← l]; exact hr n)
  have J : PySem.W.InstAt s1.heap p.1 p.2 C (some od) := ⟨ha, hz.1, by unfold PySem.W.notCls; rw [hd] <;> rfl, by rw [hz.2]; exact ho⟩
  exact HandSPX.exc_get I1.kIn J T.ga T.gg T.exC (PySem.W.findObj_own T.hdC hno rfl (by rw [hl, hu])) (handed_of ru) ⟨v, H1, I1.tok _, ru, q⟩
end Ver
namespace Ver
open PySem PySem.Spec PyProof.Rows L2
section
variable {X : Cx} {C : Addr} {bmB : List Value} {B newId initId : String} {x : Str} {p pos : Pos}
/-- X(), an error class without fields: a new object -/
theorem pe_exc0 (F : ExcBaseFacts B newId initId bmB) (q : PySem.W.excIn X.K C bmB newId = true) (hg : Gl X x) (gC : X.mg x = some (.ref C)) (kC : PySem.W.keepIn X.K (.ref C) = true) (hdb : (x == ("__debug__" : Str)) = false := by decide) :
    PE X (.Call (.Name x p) [] [] pos) (fun _ H Q => ∀ a, H a = none → Q (.ref a) (upd H a (ExO (.ref C) a))) := by
  refine ⟨fun pins s σ H Q I h => ?_⟩
  refine wpAny_Call_Name_kw (ld_glob I hg gC ?_ hdb)
  refine PySem.W.callWith_K0 I.kIn kC ?_
  obtain ⟨bm, N, nm, qn, bs, hdct, sn, sub, ab, col, dd, k0, k1, k2, k3, k5, mN, hC, hN, hni, T⟩ := exc_obj I.kIn q
  refine wpAny_call_exc_subT F T hC hN hni (fun h' a hm => ?_) (by show 0 ≤ sizeLine; exact Nat.zero_le _)
  have hn : H a = none := I.hok.gone hm.new
  obtain ⟨t, ht, _, _⟩ := hm.there
  exact ⟨.ref a, upd H a (ExO (.ref C) a), I.laidN hm.keeps hm.new hn (exO_ok ht ⟨rfl, rfl⟩ rfl rfl rfl (show 4 < 6 by decide)), rfl, h a hn⟩
/-- .. raised -/
theorem pmk_exc0 (F : ExcBaseFacts B newId initId bmB) (q : PySem.W.excIn X.K C bmB newId = true) (hg : Gl X x) (gC : X.mg x = some (.ref C)) (kC : PySem.W.keepIn X.K (.ref C) = true) (r : Raises X (.ref C)) (hdb : (x == ("__debug__" : Str)) = false := by decide) :
    PMk X (.Call (.Name x p) [] [] pos) (fun _ H Q => Q (.ref C) none H) := by
  intro pins s σ H Q I h
  refine wpAny_Call_Name_kw (ld_glob I hg gC ?_ hdb)
  refine PySem.W.callWith_K0 I.kIn kC ?_
  obtain ⟨bm, N, nm, qn, bs, hdct, sn, sub, ab, col, dd, k0, k1, k2, k3, k5, mN, hC, hN, hni, T⟩ := exc_obj I.kIn q
  refine wpAny_call_exc_subT F T hC hN hni (fun h' e hm => ?_) (by show 0 ≤ sizeLine; exact Nat.zero_le _)
  exact mk_of I hm r h (I.hok.gone hm.new)
end
/-! ### isinstance(e, C), isinstance(e, (A, B, ..)): of an error that stands by, of one that is held -/
theorem pin_at {X : Cx} {pins : List (Addr × Obj)} {σ : L2.St} {H : Hp} {s : Shared} {D : Addr} {p : Addr × Obj} {d : Option Addr} (I : Inv X pins σ H s) (hp : p ∈ X.pn) (hz : Zc (.ref D) d p.2) (hf : ∃ vs, p.2.data = .fields vs) (hd : ∀ dd, d = some dd → ∃ fs, H dd = some (.xd fs)) :
    ∃ od : Option Obj, PySem.W.InstAt s.heap p.1 p.2 D od := by
  obtain ⟨vs, hv⟩ := hf
  obtain ⟨hget, _⟩ := I.pin p (List.mem_append_left _ hp)
  cases d with
  | none =>
    refine ⟨none, ?_⟩
    obtain ⟨a, oc, od, oda, osl⟩ := p
    obtain ⟨h1, h2⟩ := hz
    dsimp only at h1 h2 hv hget
    subst h1 h2 hv
    exact ⟨hget, rfl, rfl, trivial⟩
  | some dd =>
    obtain ⟨fs, ea⟩ := hd dd rfl
    have hx : ObjOk X.prog X.w H s.heap dd (.xd fs) := I.hok dd _ ea
    obtain ⟨mA, hns, hr⟩ := hx
    obtain ⟨od, ho, hl⟩ := lookIn_ns hns
    exact ⟨some od, hget, hz.1, by unfold PySem.W.notCls; rw [hv] <;> rfl, by rw [hz.2]; exact ho⟩
theorem held_at {X : Cx} {pins : List (Addr × Obj)} {σ : L2.St} {H : Hp} {s : Shared} {D a : Addr} (I : Inv X pins σ H s) (ha : H a = some (ExO (.ref D) a)) : ∃ oe : Obj, PySem.W.InstAt s.heap a oe D none := by
  obtain ⟨⟨oe, vs, ho, hz, hv, _⟩, _, _⟩ := I.hok a _ ha
  refine ⟨oe, ?_⟩
  obtain ⟨oc, od, oda, osl⟩ := oe
  obtain ⟨h1, h2⟩ := hz
  dsimp only at h1 h2 hv
  subst h1 h2 hv
  exact ⟨ho, rfl, rfl, trivial⟩
theorem excC_kit {K : PySem.W.Frag} {D a : Addr} {ox : Obj} {od : Option Obj} (C : ExcC K D) : PySem.W.KitX K (.ref a) (.ref D) (fun h => PySem.W.InstAt h a ox D od) :=
  PySem.W.kitx_exc (by obtain ⟨cd, hc, _⟩ := PySem.W.any_some C.hd; rw [hc]; rfl) C.hg C.hk C.hs C.ha C.hn C.ht C.hm
def rIsS (K : PySem.W.Frag) (a : Addr) (cls : Value) (d : Option Addr) : List V → Hp → VK → Prop := fun xs H Q => ∃ (D : Addr) (c : V) (cv : Value) (b : Bool), xs = [.ref a, c] ∧ cls = .ref D ∧ ExcC K D ∧ (∀ dd, d = some dd → ∃ fs, H dd = some (.xd fs)) ∧ ClsV c cv ∧ PySem.W.kitOne K (.ref D) cv = some b ∧ Q (.bl b) H
theorem call_isS {X : Cx} {K : PySem.W.Frag} {p : Addr × Obj} {a : Addr} {cls : Value} {d : Option Addr} (ek : X.K = K) (ea : p.1 = a) (hp : p ∈ X.pn) (hz : Zc cls d p.2) (hf : ∃ vs, p.2.data = .fields vs) : CallR X (.builtin "isinstance") (rIsS K a cls d) := by
  subst ea
  subst ek
  intro pins s σ H xs us Q I r h
  obtain ⟨D, c, cv, b, rfl, rfl, C, hd, hcv, e, q⟩ := h
  obtain ⟨u1, u2, rfl, r1, r2⟩ := vals2 r
  cases (show u1 = Value.ref p.1 from r1)
  obtain ⟨od, J⟩ := pin_at I hp hz hf hd
  have e3 := ClsV.all (.cons hcv .nil) (show Vals [c] [u2] from .cons r2 .nil)
  simp only [List.cons.injEq, and_true] at e3
  subst e3
  exact PySem.W.kia_one (excC_kit C) I.kIn J e (fun z => nomatch z) fun tk => ⟨.bl b, H, I.tok tk, rfl, q⟩
def rIsST (K : PySem.W.Frag) (a : Addr) (cls : Value) (d : Option Addr) : List V → Hp → VK → Prop := fun xs H Q => ∃ (D tp : Addr) (cs : List V) (cvs : List Value) (b : Bool), xs = [.ref a, .ref tp] ∧ cls = .ref D ∧ ExcC K D ∧ (∀ dd, d = some dd → ∃ fs, H dd = some (.xd fs)) ∧ H tp = some (.tup cs) ∧ Paired ClsV cs cvs ∧ PySem.W.kitAny K (.ref D) cvs = some b ∧ Q (.bl b) H
theorem call_isST {X : Cx} {K : PySem.W.Frag} {p : Addr × Obj} {a : Addr} {cls : Value} {d : Option Addr} (ek : X.K = K) (ea : p.1 = a) (hp : p ∈ X.pn) (hz : Zc cls d p.2) (hf : ∃ vs, p.2.data = .fields vs) : CallR X (.builtin "isinstance") (rIsST K a cls d) := by
  subst ea
  subst ek
  intro pins s σ H xs us Q I r h
  obtain ⟨D, tp, cs, cvs, b, rfl, rfl, C, hd, hT, k, e, q⟩ := h
  obtain ⟨u1, u2, rfl, r1, r2⟩ := vals2 r
  cases (show u1 = Value.ref p.1 from r1)
  cases (show u2 = Value.ref tp from r2)
  obtain ⟨od, J⟩ := pin_at I hp hz hf hd
  obtain ⟨_, its, rv, o, h1, h2, n, h3⟩ := (show ObjOk X.prog X.w H s.heap tp (.tup cs) from I.hok tp _ hT)
  have e3 := ClsV.all k rv
  subst e3
  obtain ⟨oc, od2, dt, sl⟩ := o
  simp only at h2 h3
  subst h2 h3
  exact PySem.W.kia_tup (excC_kit C) I.kIn J h1 e (fun z => nomatch z) fun tk => ⟨.bl b, H, I.tok tk, rfl, q⟩
def rIsO (K : PySem.W.Frag) : List V → Hp → VK → Prop := fun xs H Q => ∃ (a D : Addr) (c : V) (cv : Value) (b : Bool), xs = [.ref a, c] ∧ ExcC K D ∧ H a = some (ExO (.ref D) a) ∧ ClsV c cv ∧ PySem.W.kitOne K (.ref D) cv = some b ∧ Q (.bl b) H
theorem call_isO {X : Cx} : CallR X (.builtin "isinstance") (rIsO X.K) := by
  intro pins s σ H xs us Q I r h
  obtain ⟨a, D, c, cv, b, rfl, C, hE, hcv, e, q⟩ := h
  obtain ⟨u1, u2, rfl, r1, r2⟩ := vals2 r
  cases (show u1 = Value.ref a from r1)
  obtain ⟨ox, J⟩ := held_at I hE
  have e3 := ClsV.all (.cons hcv .nil) (show Vals [c] [u2] from .cons r2 .nil)
  simp only [List.cons.injEq, and_true] at e3
  subst e3
  exact PySem.W.kia_one (excC_kit C) I.kIn J e (fun z => nomatch z) fun tk => ⟨.bl b, H, I.tok tk, rfl, q⟩
def rIsOT (K : PySem.W.Frag) : List V → Hp → VK → Prop := fun xs H Q => ∃ (a D tp : Addr) (cs : List V) (cvs : List Value) (b : Bool), xs = [.ref a, .ref tp] ∧ ExcC K D ∧ H a = some (ExO (.ref D) a) ∧ H tp = some (.tup cs) ∧ Paired ClsV cs cvs ∧ PySem.W.kitAny K (.ref D) cvs = some b ∧ Q (.bl b) H
theorem call_isOT {X : Cx} : CallR X (.builtin "isinstance") (rIsOT X.K) := by
  intro pins s σ H xs us Q I r h
  obtain ⟨a, D, tp, cs, cvs, b, rfl, C, hE, hT, k, e, q⟩ := h
  obtain ⟨u1, u2, rfl, r1, r2⟩ := vals2 r
  cases (show u1 = Value.ref a from r1)
  cases (show u2 = Value.ref tp from r2)
  obtain ⟨ox, J⟩ := held_at I hE
  obtain ⟨_, its, rv, o, h1, h2, n, h3⟩ := (show ObjOk X.prog X.w H s.heap tp (.tup cs) from I.hok tp _ hT)
  have e3 := ClsV.all k rv
  subst e3
  obtain ⟨oc, od2, dt, sl⟩ := o
  simp only at h2 h3
  subst h2 h3
  exact PySem.W.kia_tup (excC_kit C) I.kIn J h1 e (fun z => nomatch z) fun tk => ⟨.bl b, H, I.tok tk, rfl, q⟩
end Ver
namespace Ver
open PySem PySem.Spec PyProof.Rows L2 Evl
/-! ### a def that raises nothing, where errors may go by -/
theorem FnOk.up {P : Program} {w : World} {K : PySem.W.Frag} {mg : Str → Option Value} {base : Heap} {k : Nat} {f : Addr} {fd : FuncData} {ps : List Str} {sp : Sp} (F : FnOk P w K mg base CX0 k f fd ps sp) : FnOk P w K mg base (L2.CX P w) k f fd ps sp :=
  ⟨F.len, fun A outer s H args us vs Q E hr he hb hv hs => codeAny_mono (F.run A outer s H args us vs Q E hr he hb hv hs) fun r s' hq => by
    cases r with
    | error e => exact hq.elim
    | ok fl => cases fl <;> exact hq⟩
theorem FnOk.both {P : Program} {w : World} {K : PySem.W.Frag} {mg : Str → Option Value} {base : Heap} {CX : CXT} {k : Nat} {f : Addr} {fd : FuncData} {ps : List Str} {sp sp' : Sp} (F : FnOk P w K mg base CX k f fd ps sp) (G : FnOk P w K mg base CX k f fd ps sp') :
    FnOk P w K mg base CX k f fd ps fun vs H Q E => sp vs H Q E ∨ sp' vs H Q E :=
  ⟨fun vs H Q E h => h.elim (F.len _ _ _ _) (G.len _ _ _ _), fun A outer s H args us vs Q E hr he hb hv hs => hs.elim (F.run A outer s H args us vs Q E hr he hb hv) (G.run A outer s H args us vs Q E hr he hb hv)⟩
/-! ### C(..), whose __init__ may raise -/
section
variable {X : Cx} {CX : CXT} {k : Nat} {f C : Addr} {fd : FuncData} {ps : List Str} {sp : Sp} {E : L2.St → XK} {x : Str} {p pos : Pos} {e : Expr} {es : List Expr} {t : TA}
theorem run_makeS {pins : List (Addr × Obj)} {σ : L2.St} {H : Hp} {s : Shared} {Q : VK} {us : List Value} {vs : List V} (M : Mk X.K C f) (F : FnOk X.prog X.w X.K X.mg X.base CX k f fd ps sp) (hr : Room (k + 1) X.A) (hb : L2.Binds X.K fd ps [])
    (hx : PassesAt CX X σ (E σ)) (I : Inv X pins σ H s) (r : Vals vs us)
    (h : ∀ x dx, H x = none → H dx = none → dx ≠ x → sp (.ref x :: vs) (L2.upd (L2.upd H dx (.own x)) x (.ins C dx [])) (fun v H2 => v = .non ∧ Q (.ref x) H2) (E σ)) :
    wpAny (model X.prog X.w) X.A (call (.ref C) us) (EP X pins σ Q) X.xe s := by
  have hq := h (s.heap.objs.size + 1) s.heap.objs.size (I.hok.fresh (Nat.le_succ _)) (I.hok.fresh (Nat.le_refl _)) (Nat.ne_of_lt (Nat.lt_succ_self _))
  have I2 := Inv.made (C := C) I
  have r2 : Vals (V.ref (s.heap.objs.size + 1) :: vs) (Value.ref (s.heap.objs.size + 1) :: us) := .cons rfl r
  have hl : (Value.ref (s.heap.objs.size + 1) :: us ++ []).length = ps.length := by
    have e := r2.length
    rw [F.len _ _ _ _ hq] at e
    rw [List.append_nil]
    exact e.symm
  have b := hb _ (Value.ref (s.heap.objs.size + 1) :: us) I2.kIn hl
  rw [List.append_nil] at b
  refine wpAny_call (make_map (f := f) I.kIn M.makes M.init (beq_iff_eq.mp M.fn) (codeAny_mono (F.run _ X.stack _ _ ⟨Value.ref (s.heap.objs.size + 1) :: us, []⟩ (Value.ref (s.heap.objs.size + 1) :: us) _ _ (E σ) (hr.make C us [])
    (I2.env0.make C us []) b r2 hq) fun r s' hq' => ?_))
  cases r with
  | error e => exact hx pins _ _ e s' I2 hq'
  | ok fl =>
    cases fl with
    | ret u =>
      obtain ⟨v, H', I3, rv, ev, q3⟩ := I2.after hq'
      subst ev
      exact ⟨rv, ⟨V.ref (s.heap.objs.size + 1), H', I3, rfl, q3⟩⟩
    | next => exact False.elim hq'
    | brk => exact False.elim hq'
    | cont => exact False.elim hq'
def tMakeS (C : Addr) (sp : Sp) (E : L2.St → XK) (t : TA) : TE := fun σ H Q => t σ H fun vs H1 => ∀ x dx, H1 x = none → H1 dx = none → dx ≠ x → sp (.ref x :: vs) (L2.upd (L2.upd H1 dx (.own x)) x (.ins C dx [])) (fun v H2 => v = .non ∧ Q (.ref x) H2) (E σ)
theorem pe_makeS (M : Mk X.K C f) (F : FnOk X.prog X.w X.K X.mg X.base CX k f fd ps sp) (hr : Room (k + 1) X.A) (hg : Gl X x) (hm : X.mg x = some (.ref C)) (hb : L2.Binds X.K fd ps []) (hx : ∀ σ, PassesAt CX X σ (E σ))
    (ha : PA X (e :: es) t) (hdb : (x == ("__debug__" : Str)) = false := by decide) (he : starEach (e :: es) X.env = (false, eval e X.env) :: starEach es X.env := by rfl) (hpl : (backTo pos (starEach es X.env)).any (·.1) = false := by rfl) :
    PE X (.Call (.Name x p) (e :: es) [] pos) (tMakeS C sp E t) := by
  refine ⟨fun pins s σ H Q I h => ?_⟩
  refine wpAny_Call_Name_kw (ld_glob I hg hm ?_ hdb)
  refine PySem.W.callWith_K (h₀ := X.base) I.ok.mod.kin M.kp (thn (ha.run pos pins s σ H _ I h) fun us s1 ⟨vs, H1, I1, r, q⟩ => ⟨I1.kIn, ?_⟩) he hpl
  exact run_makeS M F hr hb (hx σ) I1 r q
end
/-! ### errors with fields -/
/-- __init__ of an error: its fields are fs of what it is handed -/
def spErr (C : Addr) (n : Nat) (fs : List V → List (Str × V)) : Sp := fun vs H Q _ => ∃ (a : Addr) (us : List V), vs = .ref a :: us ∧ us.length = n ∧ H a = some (exo a C none) ∧ ∀ dx H2, H dx = none → dx ≠ a → H2 a = some (exo a C (some dx)) → H2 dx = some (exd dx (fs us)) → (∀ b, b ≠ a → b ≠ dx → H2 b = H b) → Q .non H2
/-- what a def that raises promises: an error of the class at C with these fields, told of the heap behind it -/
def RetE (C : Addr) (fs : List (Str × V)) (H : Hp) (E : XK) : Prop := ∀ d H2, Ex H H2 → H d = none → H2 d = some (.xd fs) → E (.ref C) (some d) H2
def RetE0 (C : Addr) (H : Hp) (E : XK) : Prop := ∀ H2, Ex H H2 → E (.ref C) none H2
/-- an error class with fields -/
structure ErrC (P : Program) (w : World) (K : PySem.W.Frag) (mg : Str → Option Value) (base : Heap) (x : Str) (C : Addr) (n : Nat) (ps : List Str) (fs : List V → List (Str × V)) : Prop where
  o : OexC K C
  g : mg x = some (.ref C)
  xf : XfC K C
  ec : ExcC K C
  init : ∃ fI fd, PySem.W.findIn K (.ref C) "__init__" = some (some (.ref fI)) ∧ PySem.W.typeIn K (.ref fI) = some (.type "function") ∧ FnOk P w K mg base CX0 1 fI fd ps (spErr C n fs) ∧ L2.Binds K fd ps []
section
variable {X : Cx} {C : Addr} {n : Nat} {ps : List Str} {fs : List V → List (Str × V)} {x : Str} {p pos pos2 : Pos} {e : Expr} {es : List Expr} {ta : TA} {W : WX}
def tRaiseE (C : Addr) (n : Nat) (fs : List V → List (Str × V)) (W : WX) (ta : TA) : TS := fun _ σ H => tMkO C (spErr C n fs) [] ta σ H fun cls d H' => W cls d σ H'
theorem ps_raiseE (hc : X.calm = true) (G : ErrC X.prog X.w X.K X.mg X.base x C n ps fs) (hr : Room 2 X.A) (tk : Takes X W) (ha : PA X (e :: es) ta) (hg : Gl X x) (hdb : (x == ("__debug__" : Str)) = false := by decide) (he : starEach (e :: es) X.env = (false, eval e X.env) :: starEach es X.env := by rfl) (hpl : (backTo pos (starEach es X.env)).any (·.1) = false := by rfl) :
    PS X (.Raise (some (.Call (.Name x p) (e :: es) [] pos)) none pos2) (tRaiseE C n fs W ta) := by
  obtain ⟨fI, fd, iC, tI, F1, hb⟩ := G.init
  exact ps_raise hc tk (pmk_oex (dvs := []) (ds := []) G.o iC tI F1 hr hb .nil pass0 hg G.g ha hdb he hpl)
theorem s_raiseE {σ : L2.St} {H : Hp} {D : Ends} {vs : List V} (h : EvA ta σ H vs) (hl : vs.length = n) (hn : n ≤ 1000) (k : ∀ H1, Ex H H1 → ∀ d, H1 d = none → W (.ref C) (some d) σ (L2.upd H1 d (.xd (fs vs)))) : tRaiseE C n fs W ta D σ H :=
  h H (Ex.refl H) _ fun H1 e1 => ⟨by omega, fun a ha => ⟨a, vs, by rw [List.append_nil], hl, upd_same, fun dx H2 h1 h2 h3 h4 h5 => ⟨rfl, dx, fs vs, h3, h4, by
    rw [upd_ne h2] at h1
    exact h1, by
    have e : L2.upd (L2.del H2 a) dx (.xd (fs vs)) = L2.upd H1 dx (.xd (fs vs)) := by
      funext b
      by_cases c : b = dx
      · rw [c, upd_same, upd_same]
      · rw [upd_ne c, upd_ne c]
        by_cases c2 : b = a
        · rw [c2, L2.del_same, ha]
        · rw [L2.del_ne c2, h5 b c2 c, upd_ne c2]
    rw [e]
    rw [upd_ne h2] at h1
    exact k H1 e1 dx h1⟩⟩⟩
/-- .. out of a def -/
theorem s_raiseR {σ : L2.St} {H H0 : Hp} {D : Ends} {vs : List V} {E : XK} (h : EvA ta σ H vs) (hl : vs.length = n) (hn : n ≤ 1000) (e0 : Ex H0 H) (q : RetE C (fs vs) H0 E) : tRaiseE C n fs (fun cls d _ H => E cls d H) ta D σ H :=
  s_raiseE h hl hn fun H1 e1 d hd => q d _ ((e0.trans e1).trans (Ex.new hd)) (fresh_back (e0.trans e1) hd) upd_same
end
/-- an error class without fields -/
structure ErrO (K : PySem.W.Frag) (mg : Str → Option Value) (x : Str) (C : Addr) : Prop where
  g : mg x = some (.ref C)
  q : PySem.W.excIn K C [.type "ValueError", .type "Exception", .type "BaseException", .type "object"] "ValueError.__new__" = true
  kC : PySem.W.keepIn K (.ref C) = true
  tyC : PySem.W.typeIn K (.ref C) = some (.type "type")
  ec : ExcC K C
def tRaise0 (C : Addr) (W : WX) : TS := fun _ σ H => W (.ref C) none σ H
theorem ps_raise0 {X : Cx} {C : Addr} {x : Str} {p pos pos2 : Pos} {W : WX} (hc : X.calm = true) (G : ErrO X.K X.mg x C) (tk : Takes X W) (hg : Gl X x) (hdb : (x == ("__debug__" : Str)) = false := by decide) :
    PS X (.Raise (some (.Call (.Name x p) [] [] pos)) none pos2) (tRaise0 C W) := ps_raise hc tk (pmk_exc0 PySem.F.excBase_ValueError G.q hg G.g G.kC (raises_own G.ec.hs G.tyC) hdb)
/-- a def that is handed the caught error -/
theorem okP {P : Program} {w : World} {K : PySem.W.Frag} {mg : Str → Option Value} {base : Heap} {x qual : Str} {st : Stmt} {f : Addr} {fd : FuncData} {N ps : List Str} {k : Nat} {sp : Addr → Value → Option Addr → Sp} (F : Fun K x qual st f fd) (S : FnScope N ps (defScope st)) (len : ∀ a cls d vs H Q E, sp a cls d vs H Q E → vs.length = ps.length)
    (hbody : ∀ (cdv : Value) (A : Around) (outer : List Env) (s : Shared) (H : Hp) (vs : List V) (Q : VK) (E : XK) (p : Addr × Obj) (cls : Value) (d : Option Addr), Zc cls d p.2 → (∃ fv, p.2.data = .fields fv) → L2H.RoomH k (A.deeper (envOfC qual (defScope st) s.heap.objs.size f cdv)) → sp p.1 cls d vs H Q E →
      ∃ t, PSs (L2H.cxH CX0 P w K mg base N qual (defScope st) f cdv A outer s H E p) (defBody st) t ∧ t { nx := fun _ H' => Q .non H', rt := Q } (L2.start N vs) H) : FnP P w K mg base (k + 1) f fd ps sp := by
  obtain ⟨oc, od, kV, doc, pm, an, cdv, ct, osl, rfl, lk, hcd⟩ := F.ex
  exact fn_ofP lk hcd S len fun A outer s H vs Q E p cls d hz hf hr hsp => hbody cdv A outer s H vs Q E p cls d hz hf hr hsp
theorem kitAny_none {K : PySem.W.Frag} {t : Value} : ∀ us : List Value, (∀ u ∈ us, PySem.W.kitOne K t u = some false) → PySem.W.kitAny K t us = some false
  | [], _ => rfl
  | u :: us, h => kitAny_cons (h u (List.mem_cons_self ..)) (fun _ => kitAny_none us fun v hv => h v (List.mem_cons_of_mem _ hv)) (fun z => nomatch z)
end Ver
namespace Ver
open PySem PySem.Spec PyProof.Rows L2 Evl
/-- what == of own objects asks of their class -/
structure EqC (K : PySem.W.Frag) (C : Addr) : Prop where
  hc : PySem.W.findIn K (.ref C) "__class__" = some (some (.builtin "object.__class__"))
  hn : PySem.W.specialIn K (.builtin "object.__class__") "__get__" = some (some (.builtin "getset_descriptor.__get__"))
  ht : PySem.W.takesIn K (.builtin "object.__class__") = some true
  mo : PySem.W.mroIn K C (.type "object") = some true
  kk : PySem.W.kitOne K (.ref C) (.ref C) = some true
  ks : PySem.W.kitOne K (.type "str") (.ref C) = some false
theorem notFirst_str {K : PySem.W.Frag} {C : Addr} : PySem.W.notFirst K C (.type "str") = true := by
  have e : PySem.W.subIn K (.type "str") (.ref C) = some false := by
    show (fastBuiltinMro "str").map (fun l => l.contains (.ref C)) = some false
    rfl
  show ((.type "str" : Value) == .ref C || PySem.W.subIn K (.type "str") (.ref C) == some false) = true
  rw [e]
  exact Bool.or_true _
theorem notFirst_own {K : PySem.W.Frag} {C : Addr} : PySem.W.notFirst K C (.ref C) = true := by
  show ((.ref C : Value) == .ref C || _) = true
  rw [beq_self_eq_true]
  rfl
/-- x == y, x an object of the class at C with an own __eq__ -/
def rOwn (C : Addr) (sp : Sp) (E : XK) : R2 := fun x y H Q => ∃ a dx fs, x = .ref a ∧ H a = some (.ins C dx fs) ∧ ((∃ b dy gs, y = .ref b ∧ H b = some (.ins C dy gs)) ∨ ∃ s, y = .str s) ∧ sp [x, y] H (fun v H' => (∃ b, v = .bl b) ∧ Q v H') E
section
variable {X : Cx} {CX : CXT} {k : Nat} {f C : Addr} {fd : FuncData} {ps : List Str} {sp : Sp} {E : XK}
theorem op_own (M : Meth X.K C "__eq__" f) (F : FnOk X.prog X.w X.K X.mg X.base CX k f fd ps sp) (hr : Room k X.A) (hb : L2.Binds X.K fd ps []) (hx : Passes CX X E) : OpR X (compareOp .Eq) (rOwn C sp E) := by
  intro pins s σ H x y v u Q I rx ry h
  obtain ⟨a, dx, fs, rfl, ha, hy, hq⟩ := h
  obtain rfl : v = Value.ref a := rx
  obtain ⟨mA, J, _⟩ := ins_get I.hok ha
  obtain ⟨od, J, _⟩ := J.look
  obtain ⟨m, hF⟩ := I.fr
  show wpAny (model X.prog X.w) X.A (richCompare .Eq (.ref a) u) (EP X pins σ Q) X.xe s
  have go : wpAny (model X.prog X.w) X.A (call (.ref f) [.ref a, u]) (PySem.W.CmpBack (EP X pins σ Q)) X.xe s :=
    wpAny_mono (run_fn (us := [.ref a, u]) (vs := [.ref a, y]) (dvs := []) (ds := []) F hr hb .nil hx I (.cons rfl (.cons ry .nil)) hq) (fun r s' z => by
      obtain ⟨w, H', I', rw', ⟨b, hb'⟩, q⟩ := z
      subst hb'
      obtain rfl : r = Value.bool b := rw'
      exact ⟨.bl b, H', I', rfl, q⟩) fun _ _ z => z
  rcases hy with ⟨b, dy, gs, rfl, hb2⟩ | ⟨t, rfl⟩
  · obtain rfl : u = Value.ref b := ry
    obtain ⟨mB, J', _⟩ := ins_get I.hok hb2
    obtain ⟨od', J', _⟩ := J'.look
    exact PySem.W.cmp_K (op := .Eq) (tb := .ref C) hr.units0 hF I.ok.mod.kin J J'.type notFirst_own M.at_ M.fn go
  · obtain ⟨tk, rfl⟩ : ∃ tk, u = Value.str t tk := ry
    exact PySem.W.cmp_K (op := .Eq) (tb := .type "str") hr.units0 hF I.ok.mod.kin J (PySem.W.looks_typeIn I.kIn rfl) notFirst_str M.at_ M.fn go
/-! ### o.m(k = v, ..) -/
def tMethN (C : Addr) (m : Str) (n : Nat) (sp : Sp) (gV : List V → List V → List V) (E : XK) (ta : TE) (tk : TA) : TE := fun σ H Q => ta σ H fun x H1 => ∃ a dx fs, x = .ref a ∧ H1 a = some (.ins C dx fs) ∧ fs.lookup m = none ∧ tk σ H1 fun zs H2 => zs.length = n ∧ sp (gV [.ref a] zs) H2 Q E
theorem pe_methN {m : Str} {o : Expr} {apos pos : Pos} {kws : List Keyword} {ks : List Str} {ta : TE} {tk : TA} {g : List Value → List Value → List Value} {gV : List V → List V → List V} {pl : Sem Bool} (he : PE X o ta) (c : Cls X.K C) (hm : Meth X.K C m f) (F : FnOk X.prog X.w X.K X.mg X.base CX k f fd ps sp) (hr : Room k X.A)
    (hb : KBn X.K fd ps 1 ks g gV) (hx : Passes CX X E) (hkw : PK X kws tk) (hall : (backToKw pos (keywordEach kws X.env)).all (·.1.isSome) = true := by rfl) (hks : (backToKw pos (keywordEach kws X.env)).filterMap (·.1) = ks := by rfl)
    (hpl : ((backTo pos (starEach [] X.env)).any (·.1) || (backToKw pos (keywordEach kws X.env)).any (·.1.isNone)) = false := by rfl)
    (ht : eval (.Call (.Attribute o m apos) [] kws pos) X.env = (do
      let ov ← eval o X.env
      standAt apos.atName
      let (f, first) ← holding [ov] (getMethod ov m pl)
      callWith pos f first (backTo pos (starEach [] X.env)) (backToKw pos (keywordEach kws X.env))) := by rfl) :
    PE X (.Call (.Attribute o m apos) [] kws pos) (tMethN C m ks.length sp gV E ta tk) := by
  refine ⟨fun pins s σ H Q I h => ?_⟩
  refine PySem.W.methodCall_KW (pl := pl) (thn (he.run pins s σ H _ I h) fun u s1 ⟨x, H1, I1, rx, a, dx, fs, ex, ea, l, q⟩ => ?_) ht
  subst ex
  obtain rfl : u = Value.ref a := rx
  refine getmeth_ok I1 ea c hm l ?_
  refine PySem.W.callWith_KW0 (h₀ := X.base) I1.ok.mod.kin hm.kp hall ?_ hpl
  refine thn (hkw.run pos pins s1 σ H1 _ I1 q) fun ws s2 ⟨zs, H2, I2, rz, l2, q2⟩ => ⟨I2.kIn, ?_⟩
  rw [hks]
  exact run_fnN (us := [.ref a]) (vs := [.ref a]) F hr hb hx I2 (.cons rfl .nil) rz rfl l2 q2
end
/-! ### the rules of the sections -/
section
variable {K : PySem.W.Frag} {σ : L2.St} {H : Hp} {C : Addr} {ta tb : TE}
theorem ev_own {sp : Sp} {E : XK} {a dx : Addr} {fs : List (Str × V)} {y : V} {b : Bool} (ha : Ev ta σ H (.ref a)) (hb : Ev tb σ H y) (hi : H a = some (.ins C dx fs)) (hy : (∃ c dy gs, y = .ref c ∧ H c = some (.ins C dy gs)) ∨ ∃ s, y = .str s)
    (hs : ∀ H1, Ex H H1 → ∀ Q : VK, (∀ H2, Ex H1 H2 → Q (.bl b) H2) → sp [.ref a, y] H1 Q E) : Ev (tOp (rOwn C sp E) ta tb) σ H (.bl b) := fun H1 e Q q => ha H1 e _ fun H2 e2 => hb H2 (e.trans e2) _ fun H3 e3 =>
  ⟨a, dx, fs, rfl, ((e.trans e2).trans e3) _ _ hi, hy.imp (fun ⟨c, dy, gs, h1, h2⟩ => ⟨c, dy, gs, h1, ((e.trans e2).trans e3) _ _ h2⟩) (fun z => z), hs H3 ((e.trans e2).trans e3) _ fun H4 e4 => ⟨⟨b, rfl⟩, q H4 ((e2.trans e3).trans e4)⟩⟩
theorem rc_isiC {a dx : Addr} {fs : List (Str × V)} (G : EqC K C) (cl : Cls K C) (h : H a = some (.ins C dx fs)) : RC (rIsi K) [.ref a, .ref C] H (.bl true) := fun H1 e _ q =>
  ⟨.ref a, .ref C, _, _, true, rfl, .own C, .base (.ins (e _ _ h) cl G.hc G.hn G.ht G.mo), G.kk, q H1 (Ex.refl H1)⟩
theorem rc_isiCs {s : Str} (G : EqC K C) : RC (rIsi K) [.str s, .ref C] H (.bl false) := fun H1 _ _ q =>
  ⟨.str s, .ref C, _, _, false, rfl, .own C, .base (.str s), G.ks, q H1 (Ex.refl H1)⟩
/-- a method's call by name of its one parameter -/
theorem ev_methN {m : Str} {sp : Sp} {E : XK} {a dx : Addr} {fs : List (Str × V)} {gV : List V → List V → List V} {t : TA} {vs : List V} {v : V} {n : Nat} (ha : Ev ta σ H (.ref a)) (hi : H a = some (.ins C dx fs)) (hl : fs.lookup m = none) (ht : EvA t σ H vs) (hn : vs.length = n)
    (h : ∀ H1, Ex H H1 → ∀ Q : VK, (∀ H2, Ex H1 H2 → Q v H2) → sp (gV [.ref a] vs) H1 Q E) : Ev (tMethN C m n sp gV E ta t) σ H v := fun H1 e Q q => ha H1 e _ fun H2 e2 => ⟨a, dx, fs, rfl, (e.trans e2) _ _ hi, hl, ht H2 (e.trans e2) _ fun H3 e3 => ⟨hn, h H3 ((e.trans e2).trans e3) Q fun H4 e4 => q H4 ((e2.trans e3).trans e4)⟩⟩
end
/-! ### list(text) -/
def rListS : List V → Hp → VK → Prop := fun xs H Q => ∃ l : List Nat, xs = [tx l] ∧ l.length ≤ 1000 ∧ ∀ p, H p = none → Q (.ref p) (L2.upd H p (.lst (l.map fun c => tx [c])))
theorem vals_signs {l : List Nat} {its : List Value} (hl : its.length = l.length) (h : ∀ (j : Nat) (v : Value), its[j]? = some v → ∃ (c : Nat) (u : Tok), l[j]? = some c ∧ v = Value.str ⟨#[c]⟩ u) : Vals (l.map fun c => tx [c]) its := by
  induction l generalizing its with
  | nil =>
    match its, hl with
    | [], _ => exact .nil
  | cons c r ih =>
    match its, hl with
    | v :: ws, hl =>
      obtain ⟨d, u, h1, rfl⟩ := h 0 v rfl
      obtain rfl : c = d := Option.some.inj h1
      exact .cons ⟨u, rfl⟩ (ih (by simpa using hl) fun j v hv => h (j + 1) v hv)
theorem call_listS {X : Cx} (hc : X.calm = true) : CallR X (.type "list") rListS := by
  intro pins s σ H xs us Q I r h
  obtain ⟨l, rfl, hz, q⟩ := h
  obtain ⟨u, rfl, t, rfl⟩ := vals1 r
  have hsz : (SX.S l).cps.size = l.length := by
    show l.toArray.size = _
    simp
  refine call_list_str (I.ok.hd hc) (SX.S l) t (fun h' tk acc' c' hk hS' hacc => ?_) (by rw [hsz, sizeLine_eq]; omega)
  have hv : Vals (l.map fun c => tx [c]) acc'.toList := vals_signs (by rw [Array.length_toList, hacc.1, hsz]) fun j v hv => by
    obtain ⟨c, u, h1, h2⟩ := hacc.2 j v (by simpa using hv)
    refine ⟨c, u, ?_, h2⟩
    have h3 : l.toArray[j]? = some c := h1
    simpa using h3
  exact ⟨.ref s.heap.objs.size, _, I.laid (t' := tk) hk (Nat.le_refl _) (show ObjOk X.prog X.w _ h' _ (.lst (l.map fun c => tx [c])) from ⟨by rw [List.length_map, sizeLine_eq]; omega, acc'.toList, c', hv, by simpa using hS'⟩), rfl, q _ (I.hok.fresh (Nat.le_refl _))⟩
theorem el_listS {ta : TE} {σ : L2.St} {H : Hp} {l : List Nat} (h : Ev ta σ H (tx l)) (hz : l.length ≤ 1000) : EvL (tCB rListS (tCons ta tNil)) σ H (l.map fun c => tx [c]) := fun H1 e Q q => h H1 e _ fun H2 e2 => ⟨l, rfl, hz, fun p hp => q p _ (fresh_back e2 hp) (e2.trans (Ex.new hp)) upd_same⟩
/-! ### text[::-1], its length exactly -/
def tRevE (te : TE) : TE := fun σ H Q => te σ H fun x H1 => ∃ z : Str, x = .str z ∧ z.length ≤ sizeLine ∧ ∀ y : Str, y.cps.toList = ((List.range z.length).map fun k => z.cps.getD (z.length - 1 - k) 0) → Q (.str y) H1
theorem pe_revE {X : Cx} {e : Expr} {te : TE} {k : Nat} {p1 p2 p3 pos : Pos} (he : PE X e te) : PE X (.Subscript e (.Slice none none (some (.UnaryOp .USub (.Constant (.int 1) k p1) p2)) p3) pos) (tRevE te) := by
  refine ⟨fun pins s σ H Q I h => ?_⟩
  refine Subscript_ (thn (he.run pins s σ H _ I h) fun v s1 ⟨x, H1, I1, r1, q1⟩ => ?_)
  obtain ⟨z, ex, hz, q⟩ := q1
  subst ex
  obtain ⟨t, rfl⟩ := r1
  have hst : PO X (some (.UnaryOp .USub (.Constant (.int 1) k p1) p2)) (tPart (tUn (rU fun i => .int (-i)) (tC (.int 1)))) := po_some (pe_un un_neg pe_int)
  refine wpAny_Slice (thn (po_none.run pins s1 σ H1 (fun o H2 => o = none ∧ H2 = H1) I1 ⟨rfl, rfl⟩) fun vl s2 ⟨l, H2, I2, pl, el, e2⟩ => ?_)
  subst el e2
  refine thn (po_none.run pins s2 σ H2 (fun o H3 => o = none ∧ H3 = H2) I2 ⟨rfl, rfl⟩) fun vu s3 ⟨u, H3, I3, pu, eu, e3⟩ => ?_
  subst eu e3
  refine thn (hst.run pins s3 σ H3 (fun o H4 => o = some (-1) ∧ H4 = H3) I3 ⟨1, rfl, -1, rfl, rfl, rfl⟩) fun vs s4 ⟨o, H4, I4, ps, eo, e4⟩ => ?_
  subst eo e4
  have I5 : Inv X pins σ H4 { s4 with heap := s4.heap.push { cls := .type "slice", data := .fields #[vl, vu, vs] } } := I4.kept (t' := s4.toks) fun b ob q => Heap.get?_push_of_some _ q
  obtain ⟨l, rfl, hl⟩ := IsPart.raw pl
  obtain ⟨u, rfl, hu⟩ := IsPart.raw pu
  obtain ⟨w, rfl, hw⟩ := IsPart.raw ps
  cases l with
  | some l => cases hl
  | none =>
  cases u with
  | some u => cases hu
  | none =>
  cases w with
  | none => cases hw
  | some w =>
  obtain ⟨w1, w2⟩ := w
  have ew : w1 = -1 := by
    have : some w1 = some (-1 : Int) := hw
    exact Option.some.inj this
  subst ew
  refine tail_any (ops := [.ref s4.heap.objs.size, .str z t]) (typeIs_str _ _ _) F.slot_str_getitem.lookup ?_ (by with_unfolding_all rfl)
  refine wpAny_getItem_str_slice (l := none) (u := none) (st := some (-1, w2)) ⟨_, Heap.get?_push_size _ rfl, rfl, rfl⟩ rfl ?_
  have hc : ¬ ((((some ((-1 : Int), w2)).map (·.1)).getD 1 == 1 && (slicePicked z none none (some (-1, w2))).length == z.length) = true) := by
    have : (((some ((-1 : Int), w2)).map (·.1)).getD 1 == 1) = false := rfl
    rw [this]
    simp
  have hl := step_rev_list z w2
  have hn := step_rev_len z w2
  unfold Txt.sliceBy at hl hn
  rw [if_neg hc] at hl hn
  unfold sliceMade
  rw [if_neg hc]
  refine ⟨?_, .str _, H4, I5.tok _, ⟨_, rfl⟩, q _ hl⟩
  show (⟨((slicePicked z none none (some (-1, w2))).filterMap (z.cps[·]?)).toArray⟩ : Str).length ≤ sizeLine
  rw [hn]
  exact hz
theorem rev_list (l : List Nat) : ((List.range l.length).map fun k => l.getD (l.length - 1 - k) 0) = l.reverse := by
  refine List.ext_getElem? fun i => ?_
  by_cases c : i < l.length
  · rw [List.getElem?_map, List.getElem?_range c, List.getElem?_reverse c]
    show some (l.getD (l.length - 1 - i) 0) = _
    rw [List.getD_eq_getElem?_getD, List.getElem?_eq_getElem (show l.length - 1 - i < l.length by omega)]
    rfl
  · rw [List.getElem?_eq_none (by rw [List.length_map, List.length_range]; omega), List.getElem?_eq_none (by rw [List.length_reverse]; omega)]
theorem ev_revE {te : TE} {σ : L2.St} {H : Hp} {l : List Nat} (h : Ev te σ H (tx l)) (hz : l.length ≤ 100000) : Ev (tRevE te) σ H (tx l.reverse) := fun H1 e Q q => h H1 e _ fun H2 e2 => ⟨SX.S l, rfl, by rw [SX.S_len, sizeLine_eq]; omega, fun y hy => by
  have e3 : y.cps.toList = l.reverse := by
    rw [hy, ← rev_list l, SX.S_len]
    refine List.map_congr_left fun k _ => ?_
    show l.toArray.getD _ 0 = _
    simp [Array.getD_eq_getD_getElem?, List.getD_eq_getElem?_getD]
  have e4 : (.str y : V) = tx l.reverse := by
    rw [← e3]
  rw [e4]
  exact q H2 e2⟩
end Ver
namespace Ver
open PySem PySem.Spec PyProof.Rows L2 Evl
def top (i : Nat) : Stmt := PySem.Challenge.pw_outpressed_k24_round_least_form.main.body.getD i (.Pass ⟨0, 0, 0, 0⟩)
abbrev s_BadAlphabet___init__ : Stmt := inClass (top 2) 0
abbrev N_BadAlphabet___init__ : List Str := ["self", "alphabet"]
theorem S_BadAlphabet___init__ : FnScope N_BadAlphabet___init__ ["self", "alphabet"] (defScope s_BadAlphabet___init__) := ⟨rfl, rfl, rfl, by decide +kernel, rfl, by decide +kernel, by decide +kernel⟩
abbrev s_BadLetter___init__ : Stmt := inClass (top 3) 0
abbrev N_BadLetter___init__ : List Str := ["self", "index"]
theorem S_BadLetter___init__ : FnScope N_BadLetter___init__ ["self", "index"] (defScope s_BadLetter___init__) := ⟨rfl, rfl, rfl, by decide +kernel, rfl, by decide +kernel, by decide +kernel⟩
abbrev s_is_alphabet : Stmt := top 29
abbrev N_is_alphabet : List Str := ["string", "one", "two"]
theorem S_is_alphabet : FnScope N_is_alphabet ["string"] (defScope s_is_alphabet) := ⟨rfl, rfl, rfl, by decide +kernel, rfl, by decide +kernel, by decide +kernel⟩
abbrev s_check_alphabet : Stmt := top 30
abbrev N_check_alphabet : List Str := ["alphabet"]
theorem S_check_alphabet : FnScope N_check_alphabet ["alphabet"] (defScope s_check_alphabet) := ⟨rfl, rfl, rfl, by decide +kernel, rfl, by decide +kernel, by decide +kernel⟩
abbrev s_check_text : Stmt := top 31
abbrev N_check_text : List Str := ["alphabet", "text", "rest"]
theorem S_check_text : FnScope N_check_text ["alphabet", "text"] (defScope s_check_text) := ⟨rfl, rfl, rfl, by decide +kernel, rfl, by decide +kernel, by decide +kernel⟩
abbrev s_Round___init__ : Stmt := inClass (top 33) 0
abbrev N_Round___init__ : List Str := ["self", "alphabet", "head", "ring", "root", "turned", "place"]
theorem S_Round___init__ : FnScope N_Round___init__ ["self", "alphabet", "head", "ring"] (defScope s_Round___init__) := ⟨rfl, rfl, rfl, by decide +kernel, rfl, by decide +kernel, by decide +kernel⟩
abbrev s_Round___eq__ : Stmt := inClass (top 33) 1
abbrev N_Round___eq__ : List Str := ["self", "other"]
theorem S_Round___eq__ : FnScope N_Round___eq__ ["self", "other"] (defScope s_Round___eq__) := ⟨rfl, rfl, rfl, by decide +kernel, rfl, by decide +kernel, by decide +kernel⟩
abbrev s_Round_letter_of : Stmt := inClass (top 33) 2
abbrev N_Round_letter_of : List Str := ["self", "index"]
theorem S_Round_letter_of : FnScope N_Round_letter_of ["self", "index"] (defScope s_Round_letter_of) := ⟨rfl, rfl, rfl, by decide +kernel, rfl, by decide +kernel, by decide +kernel⟩
abbrev s_Round_beginning : Stmt := inClass (top 33) 3
abbrev N_Round_beginning : List Str := ["self", "length"]
theorem S_Round_beginning : FnScope N_Round_beginning ["self", "length"] (defScope s_Round_beginning) := ⟨rfl, rfl, rfl, by decide +kernel, rfl, by decide +kernel, by decide +kernel⟩
abbrev s_turned_letters : Stmt := top 34
abbrev N_turned_letters : List Str := ["head", "ring", "turned"]
theorem S_turned_letters : FnScope N_turned_letters ["head", "ring"] (defScope s_turned_letters) := ⟨rfl, rfl, rfl, by decide +kernel, rfl, by decide +kernel, by decide +kernel⟩
abbrev s__law_whole : Stmt := top 36
abbrev N__law_whole : List Str := ["value"]
theorem S__law_whole : FnScope N__law_whole ["value"] (defScope s__law_whole) := ⟨rfl, rfl, rfl, by decide +kernel, rfl, by decide +kernel, by decide +kernel⟩
abbrev s__law_cell : Stmt := top 37
abbrev N__law_cell : List Str := ["script", "k", "seed", "cell"]
theorem S__law_cell : FnScope N__law_cell ["script", "k"] (defScope s__law_cell) := ⟨rfl, rfl, rfl, by decide +kernel, rfl, by decide +kernel, by decide +kernel⟩
abbrev s__law_digits : Stmt := top 38
abbrev N__law_digits : List Str := ["cell", "sizes", "row", "rest", "size", "seed", "k", "twice"]
theorem S__law_digits : FnScope N__law_digits ["cell", "sizes"] (defScope s__law_digits) := ⟨rfl, rfl, rfl, by decide +kernel, rfl, by decide +kernel, by decide +kernel⟩
abbrev s__law_alphabet : Stmt := top 39
abbrev N__law_alphabet : List Str := ["row", "upto", "many", "letters", "taken", "k", "at", "turn"]
theorem S__law_alphabet : FnScope N__law_alphabet ["row", "upto"] (defScope s__law_alphabet) := ⟨rfl, rfl, rfl, by decide +kernel, rfl, by decide +kernel, by decide +kernel⟩
abbrev s__law_plain_text : Stmt := top 40
abbrev N__law_plain_text : List Str := ["abc", "row", "size", "k"]
theorem S__law_plain_text : FnScope N__law_plain_text ["abc", "row", "size"] (defScope s__law_plain_text) := ⟨rfl, rfl, rfl, by decide +kernel, rfl, by decide +kernel, by decide +kernel⟩
abbrev s__law_writing : Stmt := top 41
abbrev N__law_writing : List Str := ["abc", "row", "one", "two", "front", "circle", "kind", "small", "root", "many", "tail", "other", "half", "at"]
theorem S__law_writing : FnScope N__law_writing ["abc", "row", "one", "two"] (defScope s__law_writing) := ⟨rfl, rfl, rfl, by decide +kernel, rfl, by decide +kernel, by decide +kernel⟩
abbrev s__law_form : Stmt := top 42
abbrev N__law_form : List Str := ["front", "circle", "text", "period", "k", "start"]
theorem S__law_form : FnScope N__law_form ["front", "circle"] (defScope s__law_form) := ⟨rfl, rfl, rfl, by decide +kernel, rfl, by decide +kernel, by decide +kernel⟩
abbrev s__law_giant : Stmt := top 43
abbrev N__law_giant : List Str := ["row", "number", "k"]
theorem S__law_giant : FnScope N__law_giant ["row"] (defScope s__law_giant) := ⟨rfl, rfl, rfl, by decide +kernel, rfl, by decide +kernel, by decide +kernel⟩
abbrev s__law_beginning : Stmt := top 44
abbrev N__law_beginning : List Str := ["front", "circle", "span"]
theorem S__law_beginning : FnScope N__law_beginning ["front", "circle", "span"] (defScope s__law_beginning) := ⟨rfl, rfl, rfl, by decide +kernel, rfl, by decide +kernel, by decide +kernel⟩
abbrev s__law_other : Stmt := top 45
abbrev N__law_other : List Str := ["form", "row", "moved", "turn", "copies"]
theorem S__law_other : FnScope N__law_other ["form", "row"] (defScope s__law_other) := ⟨rfl, rfl, rfl, by decide +kernel, rfl, by decide +kernel, by decide +kernel⟩
abbrev s__law_near : Stmt := top 46
abbrev N__law_near : List Str := ["abc", "made", "row", "text", "at", "letter"]
theorem S__law_near : FnScope N__law_near ["abc", "made", "row"] (defScope s__law_near) := ⟨rfl, rfl, rfl, by decide +kernel, rfl, by decide +kernel, by decide +kernel⟩
abbrev s__law_stranger : Stmt := top 47
abbrev N__law_stranger : List Str := ["abc", "turn", "signs", "at", "k"]
theorem S__law_stranger : FnScope N__law_stranger ["abc", "turn"] (defScope s__law_stranger) := ⟨rfl, rfl, rfl, by decide +kernel, rfl, by decide +kernel, by decide +kernel⟩
abbrev s__law_alone : Stmt := top 48
abbrev N__law_alone : List Str := ["error"]
theorem S__law_alone : FnScope N__law_alone ["error"] (defScope s__law_alone) := ⟨rfl, rfl, rfl, by decide +kernel, rfl, by decide +kernel, by decide +kernel⟩
abbrev s__law_refused : Stmt := top 49
abbrev N__law_refused : List Str := ["abc", "front", "circle", "e"]
theorem S__law_refused : FnScope N__law_refused ["abc", "front", "circle"] (defScope s__law_refused) := ⟨rfl, rfl, rfl, by decide +kernel, rfl, by decide +kernel, by decide +kernel⟩
abbrev s__law_refusals : Stmt := top 50
abbrev N__law_refusals : List Str := ["abc", "made", "row", "front", "circle", "i", "j", "bad_head", "bad_ring", "bad", "asked", "one"]
theorem S__law_refusals : FnScope N__law_refusals ["abc", "made", "row"] (defScope s__law_refusals) := ⟨rfl, rfl, rfl, by decide +kernel, rfl, by decide +kernel, by decide +kernel⟩
abbrev s__law_has_form : Stmt := top 51
abbrev N__law_has_form : List Str := ["actual", "abc", "form"]
theorem S__law_has_form : FnScope N__law_has_form ["actual", "abc", "form"] (defScope s__law_has_form) := ⟨rfl, rfl, rfl, by decide +kernel, rfl, by decide +kernel, by decide +kernel⟩
abbrev s__law_reads : Stmt := top 52
abbrev N__law_reads : List Str := ["actual", "made", "indexes", "lengths", "place", "due", "span"]
theorem S__law_reads : FnScope N__law_reads ["actual", "made", "indexes", "lengths"] (defScope s__law_reads) := ⟨rfl, rfl, rfl, by decide +kernel, rfl, by decide +kernel, by decide +kernel⟩
abbrev s__law_told : Stmt := top 53
abbrev N__law_told : List Str := ["actual", "due"]
theorem S__law_told : FnScope N__law_told ["actual", "due"] (defScope s__law_told) := ⟨rfl, rfl, rfl, by decide +kernel, rfl, by decide +kernel, by decide +kernel⟩
abbrev s__law_long_right : Stmt := top 54
abbrev N__law_long_right : List Str := ["abc", "first", "form", "row", "front", "turn", "circle", "other"]
theorem S__law_long_right : FnScope N__law_long_right ["abc", "first", "form", "row"] (defScope s__law_long_right) := ⟨rfl, rfl, rfl, by decide +kernel, rfl, by decide +kernel, by decide +kernel⟩
abbrev s__law_wider : Stmt := top 55
abbrev N__law_wider : List Str := ["abc", "turn", "letters", "at", "k"]
theorem S__law_wider : FnScope N__law_wider ["abc", "turn"] (defScope s__law_wider) := ⟨rfl, rfl, rfl, by decide +kernel, rfl, by decide +kernel, by decide +kernel⟩
abbrev s_law : Stmt := top 56
abbrev N_law : List Str := ["script", "abc", "row", "one", "two", "made", "form", "extra", "same", "near", "wider", "first", "second", "third", "kept", "alike", "other", "turn", "indexes", "lengths", "named", "far"]
theorem S_law : FnScope N_law ["script"] (defScope s_law) := ⟨rfl, rfl, rfl, by decide +kernel, rfl, by decide +kernel, by decide +kernel⟩
structure Top (K : PySem.W.Frag) (mg : Str → Option Value) (C_Round : Addr) : Prop where
  z_ValueError : mg "ValueError" = none
  z_all : mg "all" = none
  z_bool : mg "bool" = none
  z_int : mg "int" = none
  z_isinstance : mg "isinstance" = none
  z_len : mg "len" = none
  z_list : mg "list" = none
  z_max : mg "max" = none
  z_min : mg "min" = none
  z_range : mg "range" = none
  z_repr : mg "repr" = none
  z_sorted : mg "sorted" = none
  z_str : mg "str" = none
  z_zip : mg "zip" = none
  c_Round : mg "Round" = some (.ref C_Round)
  cl_Round : Cls K C_Round
  n_Round_alphabet : NoAttr K C_Round "alphabet"
  n_Round_head : NoAttr K C_Round "head"
  n_Round_ring : NoAttr K C_Round "ring"
  n_Round_variety : NoAttr K C_Round "variety"
  g_LETTERS : ∃ t, mg "LETTERS" = some (.str (Str.ofString "0123456789abcdefghijklmnopqrstuvwxyz") t)
  g_MOST_LETTERS : ∃ t, mg "MOST_LETTERS" = some (.int 6 t)
structure ETop (K : PySem.W.Frag) (mg : Str → Option Value) (C_PressError : Addr) (C_BadAlphabet : Addr) (C_BadLetter : Addr) (C_BadRow : Addr) (C_BadTail : Addr) (C_BadRank : Addr) (C_NotBits : Addr) (C_BadIndex : Addr) (C_BadStanding : Addr) (C_BadRule : Addr) (C_AlphabetsDiffer : Addr) (C_DoesNotComeBack : Addr) (C_TooLarge : Addr) (C_NotWritten : Addr) (C_NoSuchText : Addr) (C_BadName : Addr) (C_NameTaken : Addr) (C_NoName : Addr) (C_EmptyRing : Addr) (C_NotInLot : Addr) (C_BadBuild : Addr) (C_BadGrowth : Addr) (C_EmptyText : Addr) (C_NothingToUndo : Addr) (C_NothingToRedo : Addr) : Prop where
  c_PressError : mg "PressError" = some (.ref C_PressError)
  c_BadAlphabet : mg "BadAlphabet" = some (.ref C_BadAlphabet)
  c_BadLetter : mg "BadLetter" = some (.ref C_BadLetter)
  c_BadRow : mg "BadRow" = some (.ref C_BadRow)
  c_BadTail : mg "BadTail" = some (.ref C_BadTail)
  c_BadRank : mg "BadRank" = some (.ref C_BadRank)
  c_NotBits : mg "NotBits" = some (.ref C_NotBits)
  c_BadIndex : mg "BadIndex" = some (.ref C_BadIndex)
  c_BadStanding : mg "BadStanding" = some (.ref C_BadStanding)
  c_BadRule : mg "BadRule" = some (.ref C_BadRule)
  c_AlphabetsDiffer : mg "AlphabetsDiffer" = some (.ref C_AlphabetsDiffer)
  c_DoesNotComeBack : mg "DoesNotComeBack" = some (.ref C_DoesNotComeBack)
  c_TooLarge : mg "TooLarge" = some (.ref C_TooLarge)
  c_NotWritten : mg "NotWritten" = some (.ref C_NotWritten)
  c_NoSuchText : mg "NoSuchText" = some (.ref C_NoSuchText)
  c_BadName : mg "BadName" = some (.ref C_BadName)
  c_NameTaken : mg "NameTaken" = some (.ref C_NameTaken)
  c_NoName : mg "NoName" = some (.ref C_NoName)
  c_EmptyRing : mg "EmptyRing" = some (.ref C_EmptyRing)
  c_NotInLot : mg "NotInLot" = some (.ref C_NotInLot)
  c_BadBuild : mg "BadBuild" = some (.ref C_BadBuild)
  c_BadGrowth : mg "BadGrowth" = some (.ref C_BadGrowth)
  c_EmptyText : mg "EmptyText" = some (.ref C_EmptyText)
  c_NothingToUndo : mg "NothingToUndo" = some (.ref C_NothingToUndo)
  c_NothingToRedo : mg "NothingToRedo" = some (.ref C_NothingToRedo)
  nf_BadAlphabet_alphabet : PySem.W.findIn K (.ref C_BadAlphabet) "alphabet" = some none
  kt_BadAlphabet_PressError : PySem.W.kitOne K (.ref C_BadAlphabet) (.ref C_PressError) = some true
  kt_BadAlphabet_BadAlphabet : PySem.W.kitOne K (.ref C_BadAlphabet) (.ref C_BadAlphabet) = some true
  kt_BadAlphabet_BadLetter : PySem.W.kitOne K (.ref C_BadAlphabet) (.ref C_BadLetter) = some false
  kt_BadAlphabet_BadRow : PySem.W.kitOne K (.ref C_BadAlphabet) (.ref C_BadRow) = some false
  kt_BadAlphabet_BadTail : PySem.W.kitOne K (.ref C_BadAlphabet) (.ref C_BadTail) = some false
  kt_BadAlphabet_BadRank : PySem.W.kitOne K (.ref C_BadAlphabet) (.ref C_BadRank) = some false
  kt_BadAlphabet_NotBits : PySem.W.kitOne K (.ref C_BadAlphabet) (.ref C_NotBits) = some false
  kt_BadAlphabet_BadIndex : PySem.W.kitOne K (.ref C_BadAlphabet) (.ref C_BadIndex) = some false
  kt_BadAlphabet_BadStanding : PySem.W.kitOne K (.ref C_BadAlphabet) (.ref C_BadStanding) = some false
  kt_BadAlphabet_BadRule : PySem.W.kitOne K (.ref C_BadAlphabet) (.ref C_BadRule) = some false
  kt_BadAlphabet_AlphabetsDiffer : PySem.W.kitOne K (.ref C_BadAlphabet) (.ref C_AlphabetsDiffer) = some false
  kt_BadAlphabet_DoesNotComeBack : PySem.W.kitOne K (.ref C_BadAlphabet) (.ref C_DoesNotComeBack) = some false
  kt_BadAlphabet_TooLarge : PySem.W.kitOne K (.ref C_BadAlphabet) (.ref C_TooLarge) = some false
  kt_BadAlphabet_NotWritten : PySem.W.kitOne K (.ref C_BadAlphabet) (.ref C_NotWritten) = some false
  kt_BadAlphabet_NoSuchText : PySem.W.kitOne K (.ref C_BadAlphabet) (.ref C_NoSuchText) = some false
  kt_BadAlphabet_BadName : PySem.W.kitOne K (.ref C_BadAlphabet) (.ref C_BadName) = some false
  kt_BadAlphabet_NameTaken : PySem.W.kitOne K (.ref C_BadAlphabet) (.ref C_NameTaken) = some false
  kt_BadAlphabet_NoName : PySem.W.kitOne K (.ref C_BadAlphabet) (.ref C_NoName) = some false
  kt_BadAlphabet_EmptyRing : PySem.W.kitOne K (.ref C_BadAlphabet) (.ref C_EmptyRing) = some false
  kt_BadAlphabet_NotInLot : PySem.W.kitOne K (.ref C_BadAlphabet) (.ref C_NotInLot) = some false
  kt_BadAlphabet_BadBuild : PySem.W.kitOne K (.ref C_BadAlphabet) (.ref C_BadBuild) = some false
  kt_BadAlphabet_BadGrowth : PySem.W.kitOne K (.ref C_BadAlphabet) (.ref C_BadGrowth) = some false
  kt_BadAlphabet_EmptyText : PySem.W.kitOne K (.ref C_BadAlphabet) (.ref C_EmptyText) = some false
  kt_BadAlphabet_NothingToUndo : PySem.W.kitOne K (.ref C_BadAlphabet) (.ref C_NothingToUndo) = some false
  kt_BadAlphabet_NothingToRedo : PySem.W.kitOne K (.ref C_BadAlphabet) (.ref C_NothingToRedo) = some false
  kt_BadAlphabet_VE : PySem.W.kitOne K (.ref C_BadAlphabet) (.type "ValueError") = some true
  ex_BadAlphabet_BadAlphabet : PySem.W.exmOne K (.ref C_BadAlphabet) (.ref C_BadAlphabet) = some true
  ex_BadAlphabet_BadLetter : PySem.W.exmOne K (.ref C_BadAlphabet) (.ref C_BadLetter) = some false
  ex_BadAlphabet_EmptyRing : PySem.W.exmOne K (.ref C_BadAlphabet) (.ref C_EmptyRing) = some false
  nf_BadLetter_index : PySem.W.findIn K (.ref C_BadLetter) "index" = some none
  kt_BadLetter_PressError : PySem.W.kitOne K (.ref C_BadLetter) (.ref C_PressError) = some true
  kt_BadLetter_BadAlphabet : PySem.W.kitOne K (.ref C_BadLetter) (.ref C_BadAlphabet) = some false
  kt_BadLetter_BadLetter : PySem.W.kitOne K (.ref C_BadLetter) (.ref C_BadLetter) = some true
  kt_BadLetter_BadRow : PySem.W.kitOne K (.ref C_BadLetter) (.ref C_BadRow) = some false
  kt_BadLetter_BadTail : PySem.W.kitOne K (.ref C_BadLetter) (.ref C_BadTail) = some false
  kt_BadLetter_BadRank : PySem.W.kitOne K (.ref C_BadLetter) (.ref C_BadRank) = some false
  kt_BadLetter_NotBits : PySem.W.kitOne K (.ref C_BadLetter) (.ref C_NotBits) = some false
  kt_BadLetter_BadIndex : PySem.W.kitOne K (.ref C_BadLetter) (.ref C_BadIndex) = some false
  kt_BadLetter_BadStanding : PySem.W.kitOne K (.ref C_BadLetter) (.ref C_BadStanding) = some false
  kt_BadLetter_BadRule : PySem.W.kitOne K (.ref C_BadLetter) (.ref C_BadRule) = some false
  kt_BadLetter_AlphabetsDiffer : PySem.W.kitOne K (.ref C_BadLetter) (.ref C_AlphabetsDiffer) = some false
  kt_BadLetter_DoesNotComeBack : PySem.W.kitOne K (.ref C_BadLetter) (.ref C_DoesNotComeBack) = some false
  kt_BadLetter_TooLarge : PySem.W.kitOne K (.ref C_BadLetter) (.ref C_TooLarge) = some false
  kt_BadLetter_NotWritten : PySem.W.kitOne K (.ref C_BadLetter) (.ref C_NotWritten) = some false
  kt_BadLetter_NoSuchText : PySem.W.kitOne K (.ref C_BadLetter) (.ref C_NoSuchText) = some false
  kt_BadLetter_BadName : PySem.W.kitOne K (.ref C_BadLetter) (.ref C_BadName) = some false
  kt_BadLetter_NameTaken : PySem.W.kitOne K (.ref C_BadLetter) (.ref C_NameTaken) = some false
  kt_BadLetter_NoName : PySem.W.kitOne K (.ref C_BadLetter) (.ref C_NoName) = some false
  kt_BadLetter_EmptyRing : PySem.W.kitOne K (.ref C_BadLetter) (.ref C_EmptyRing) = some false
  kt_BadLetter_NotInLot : PySem.W.kitOne K (.ref C_BadLetter) (.ref C_NotInLot) = some false
  kt_BadLetter_BadBuild : PySem.W.kitOne K (.ref C_BadLetter) (.ref C_BadBuild) = some false
  kt_BadLetter_BadGrowth : PySem.W.kitOne K (.ref C_BadLetter) (.ref C_BadGrowth) = some false
  kt_BadLetter_EmptyText : PySem.W.kitOne K (.ref C_BadLetter) (.ref C_EmptyText) = some false
  kt_BadLetter_NothingToUndo : PySem.W.kitOne K (.ref C_BadLetter) (.ref C_NothingToUndo) = some false
  kt_BadLetter_NothingToRedo : PySem.W.kitOne K (.ref C_BadLetter) (.ref C_NothingToRedo) = some false
  kt_BadLetter_VE : PySem.W.kitOne K (.ref C_BadLetter) (.type "ValueError") = some true
  ex_BadLetter_BadAlphabet : PySem.W.exmOne K (.ref C_BadLetter) (.ref C_BadAlphabet) = some false
  ex_BadLetter_BadLetter : PySem.W.exmOne K (.ref C_BadLetter) (.ref C_BadLetter) = some true
  ex_BadLetter_EmptyRing : PySem.W.exmOne K (.ref C_BadLetter) (.ref C_EmptyRing) = some false
  kt_EmptyRing_PressError : PySem.W.kitOne K (.ref C_EmptyRing) (.ref C_PressError) = some true
  kt_EmptyRing_BadAlphabet : PySem.W.kitOne K (.ref C_EmptyRing) (.ref C_BadAlphabet) = some false
  kt_EmptyRing_BadLetter : PySem.W.kitOne K (.ref C_EmptyRing) (.ref C_BadLetter) = some false
  kt_EmptyRing_BadRow : PySem.W.kitOne K (.ref C_EmptyRing) (.ref C_BadRow) = some false
  kt_EmptyRing_BadTail : PySem.W.kitOne K (.ref C_EmptyRing) (.ref C_BadTail) = some false
  kt_EmptyRing_BadRank : PySem.W.kitOne K (.ref C_EmptyRing) (.ref C_BadRank) = some false
  kt_EmptyRing_NotBits : PySem.W.kitOne K (.ref C_EmptyRing) (.ref C_NotBits) = some false
  kt_EmptyRing_BadIndex : PySem.W.kitOne K (.ref C_EmptyRing) (.ref C_BadIndex) = some false
  kt_EmptyRing_BadStanding : PySem.W.kitOne K (.ref C_EmptyRing) (.ref C_BadStanding) = some false
  kt_EmptyRing_BadRule : PySem.W.kitOne K (.ref C_EmptyRing) (.ref C_BadRule) = some false
  kt_EmptyRing_AlphabetsDiffer : PySem.W.kitOne K (.ref C_EmptyRing) (.ref C_AlphabetsDiffer) = some false
  kt_EmptyRing_DoesNotComeBack : PySem.W.kitOne K (.ref C_EmptyRing) (.ref C_DoesNotComeBack) = some false
  kt_EmptyRing_TooLarge : PySem.W.kitOne K (.ref C_EmptyRing) (.ref C_TooLarge) = some false
  kt_EmptyRing_NotWritten : PySem.W.kitOne K (.ref C_EmptyRing) (.ref C_NotWritten) = some false
  kt_EmptyRing_NoSuchText : PySem.W.kitOne K (.ref C_EmptyRing) (.ref C_NoSuchText) = some false
  kt_EmptyRing_BadName : PySem.W.kitOne K (.ref C_EmptyRing) (.ref C_BadName) = some false
  kt_EmptyRing_NameTaken : PySem.W.kitOne K (.ref C_EmptyRing) (.ref C_NameTaken) = some false
  kt_EmptyRing_NoName : PySem.W.kitOne K (.ref C_EmptyRing) (.ref C_NoName) = some false
  kt_EmptyRing_EmptyRing : PySem.W.kitOne K (.ref C_EmptyRing) (.ref C_EmptyRing) = some true
  kt_EmptyRing_NotInLot : PySem.W.kitOne K (.ref C_EmptyRing) (.ref C_NotInLot) = some false
  kt_EmptyRing_BadBuild : PySem.W.kitOne K (.ref C_EmptyRing) (.ref C_BadBuild) = some false
  kt_EmptyRing_BadGrowth : PySem.W.kitOne K (.ref C_EmptyRing) (.ref C_BadGrowth) = some false
  kt_EmptyRing_EmptyText : PySem.W.kitOne K (.ref C_EmptyRing) (.ref C_EmptyText) = some false
  kt_EmptyRing_NothingToUndo : PySem.W.kitOne K (.ref C_EmptyRing) (.ref C_NothingToUndo) = some false
  kt_EmptyRing_NothingToRedo : PySem.W.kitOne K (.ref C_EmptyRing) (.ref C_NothingToRedo) = some false
  kt_EmptyRing_VE : PySem.W.kitOne K (.ref C_EmptyRing) (.type "ValueError") = some true
  ex_EmptyRing_BadAlphabet : PySem.W.exmOne K (.ref C_EmptyRing) (.ref C_BadAlphabet) = some false
  ex_EmptyRing_BadLetter : PySem.W.exmOne K (.ref C_EmptyRing) (.ref C_BadLetter) = some false
  ex_EmptyRing_EmptyRing : PySem.W.exmOne K (.ref C_EmptyRing) (.ref C_EmptyRing) = some true
end Ver
namespace Ver
open PySem PySem.Spec PyProof.Rows L2 Evl
/-! ### min of three numbers; an item of a written list; items by place -/
def rMin3 : List V → Hp → VK → Prop := fun xs H Q => ∃ i j k, xs = [.int i, .int j, .int k] ∧ Q (.int (min i (min j k))) H
theorem call_min3I {X : Cx} (hc : X.calm = true) : CallR X (.builtin "min") rMin3 := by
  intro pn s σ H xs us Q I r h
  obtain ⟨i, j, k, rfl, q⟩ := h
  match us, r with
  | [_, _, _], .cons ⟨t, rfl⟩ (.cons ⟨t1, rfl⟩ (.cons ⟨t2, rfl⟩ .nil)) =>
    refine min_three_ints (I.ok.hd hc) fun h' tk keep => ⟨_, H, I.kept keep, ?_, q⟩
    by_cases c1 : j < i
    · rw [if_pos c1]
      by_cases c2 : k < j
      · rw [if_pos c2]
        exact ⟨t2, by rw [show min i (min j k) = k by omega]⟩
      · rw [if_neg c2]
        exact ⟨t1, by rw [show min i (min j k) = j by omega]⟩
    · rw [if_neg c1]
      by_cases c2 : k < i
      · rw [if_pos c2]
        exact ⟨t2, by rw [show min i (min j k) = k by omega]⟩
      · rw [if_neg c2]
        exact ⟨t, by rw [show min i (min j k) = i by omega]⟩
section
variable {K : PySem.W.Frag} {σ : L2.St} {H : Hp} {ta tb tc tl : TE} {tz : TS} {D : Ends}
theorem rc_min3 {i j k : Int} : RC rMin3 [.int i, .int j, .int k] H (.int (min i (min j k))) := fun H1 _ _ q => ⟨i, j, k, rfl, q H1 (Ex.refl H1)⟩
/-- an item of a new list of ints -/
theorem ev_atN {ns : List Int} {i : Nat} {z : Int} (hl : EvL tl σ H (ns.map V.int)) (hi : i < ns.length) (hz : z = (i : Int)) (hb : ∀ H1, Ex H H1 → Ev tb σ H1 (.int z)) : Ev (tOp (rIxL K) tl tb) σ H (.int (at0 ns i)) := by
  subst hz
  exact ev_opL1 hl hb fun p H1 h _ => rv_ixL (sq_of h) (at_int hi)
/-- the numbers f 0, f 1, .. as a list -/
def nl (f : Nat → Nat) (n : Nat) : List Int := (List.range n).map fun k => (f k : Int)
theorem nl_len (f : Nat → Nat) (n : Nat) : (nl f n).length = n := by
  unfold nl
  rw [List.length_map, List.length_range]
theorem nl_at {f : Nat → Nat} {n i : Nat} (h : i < n) : at0 (nl f n) i = (f i : Int) := by
  unfold nl at0
  rw [List.getD_eq_getElem?_getD, List.getElem?_map, List.getElem?_range h]
  rfl
theorem nl_succ (f : Nat → Nat) (n : Nat) : (nl f (n + 1)).map V.int = (nl f n).map V.int ++ [V.int (f n : Int)] := by
  unfold nl
  rw [List.range_succ, List.map_append, List.map_append]
  rfl
theorem nl_congr {f g : Nat → Nat} {n : Nat} (h : ∀ k, k < n → f k = g k) : nl f n = nl g n := by
  unfold nl
  refine List.map_congr_left fun k hk => ?_
  rw [h k (List.mem_range.mp hk)]
theorem ev_nl {a : Addr} {f : Nat → Nat} {n i : Nat} {z : Int} (hs : SqL K H a ((nl f n).map V.int)) (hi : i < n) (hz : z = (i : Int)) (ha : Ev ta σ H (.ref a)) (hb : Ev tb σ H (.int z)) : Ev (tOp (rIxL K) ta tb) σ H (.int (f i : Int)) := by
  have g := ev_atI hs (by rw [nl_len]; exact hi) hz ha hb
  rw [nl_at hi] at g
  exact g
theorem nl_get (f : Nat → Nat) (n j : Nat) : ((nl f n).map V.int)[j]? = if j < n then some (.int (f j : Int)) else none := by
  unfold nl
  rw [List.getElem?_map, List.getElem?_map]
  by_cases c : j < n
  · rw [if_pos c, List.getElem?_range c]
    rfl
  · rw [if_neg c, List.getElem?_eq_none (by rw [List.length_range]; omega)]
    rfl
theorem set_nl {f : Nat → Nat} {n i x : Nat} (hi : i < n) : ((nl f n).map V.int).set i (.int (x : Int)) = (nl (fun k => if k = i then x else f k) n).map V.int := by
  refine List.ext_getElem? fun j => ?_
  rw [List.getElem?_set, nl_get, nl_get, List.length_map, nl_len]
  by_cases c : i = j
  · subst c
    rw [if_pos rfl, if_pos hi, if_pos hi, if_pos rfl]
  · rw [if_neg c]
    by_cases d : j < n
    · rw [if_pos d, if_pos d, if_neg fun e => c (Eq.symm e)]
    · rw [if_neg d, if_neg d]
theorem given_nl (f : Nat → Nat) (n : Nat) : given n (fun _ => true) (fun k => V.int (f k : Int)) = (nl f n).map V.int := by
  unfold given nl
  rw [List.filter_eq_self.mpr fun _ _ => rfl, List.map_map]
  rfl
end
open L2 Evl in
theorem ev_chainV {r r' : R2} {ta tb tc : TE} {σ : L2.St} {H : Hp} {x y z : V} {a b : Bool} (h1 : Ev ta σ H x) (h2 : Ev tb σ H y) (hr : RV r x y H (.bl a)) (h3 : a = true → Ev tc σ H z) (hr' : a = true → RV r' y z H (.bl b)) : Ev (tChain r r' ta tb tc) σ H (.bl (a && b)) := fun H1 e Q q =>
  h1 H1 e _ fun H2 e2 => h2 H2 (e.trans e2) _ fun H3 e3 => hr H3 ((e.trans e2).trans e3) _ fun H4 e4 => ⟨a, rfl, by
    have e5 := ((e.trans e2).trans e3).trans e4
    cases a with
    | false => exact ite_ff (q H4 ((e2.trans e3).trans e4))
    | true => exact ite_tt (h3 rfl H4 e5 _ fun H5 e6 => hr' rfl H5 (e5.trans e6) Q fun H6 e7 => q H6 (((((e2.trans e3).trans e4).trans e6)).trans e7))⟩
section
variable {K : PySem.W.Frag}
theorem cutV_from {xs : List V} (n : Nat) : cutV xs (some (n : Int)) none = xs.drop n := by
  unfold cutV
  rw [HT.sIx_none, HT.sIx_nat]
  by_cases h : n ≤ xs.length
  · rw [Nat.min_eq_left h]
    exact List.take_of_length_le (by rw [List.length_drop]; omega)
  · rw [Nat.min_eq_right (by omega), Nat.sub_self, List.take_zero, List.drop_eq_nil_of_le (by omega)]
theorem at0_drop {r : List Int} {n i : Nat} : at0 (r.drop n) i = at0 r (n + i) := by
  unfold at0
  rw [List.getD_eq_getElem?_getD, List.getD_eq_getElem?_getD, List.getElem?_drop]
theorem el_from {σ : L2.St} {H : Hp} {te : TE} {a : Addr} {r : List Int} {n : Nat} {i : Int} (hi : i = (n : Int)) (h : Ev te σ H (.ref a)) (hR : SqL K H a (r.map V.int)) : EvL (tSl (rSlL K) te (tPart (tC (.int i))) tNoPart) σ H ((r.drop n).map V.int) := by
  have g := el_sl (K := K) (te := te) (σ := σ) (H := H) (tl := tPart (tC (.int i))) (th := tNoPart) (lo := some i) (hi := none) h (eo_some ev_c) eo_none hR
  subst hi
  rw [cutV_from, ← List.map_drop] at g
  exact g
theorem cutV_both {xs : List V} (a b : Nat) : cutV xs (some (a : Int)) (some ((a + b : Nat) : Int)) = (xs.drop a).take b := by
  unfold cutV
  rw [HT.sIx_nat, HT.sIx_nat]
  by_cases c : a ≤ xs.length
  · rw [Nat.min_eq_left c, ← List.take_drop_min c]
  · rw [List.drop_eq_nil_of_le (show xs.length ≤ min a xs.length by omega), List.drop_eq_nil_of_le (show xs.length ≤ a by omega), List.take_nil, List.take_nil]
where
  List.take_drop_min {xs : List V} {a b : Nat} (c : a ≤ xs.length) : (xs.drop a).take b = (xs.drop a).take (min (a + b) xs.length - a) := by
    by_cases d : a + b ≤ xs.length
    · rw [Nat.min_eq_left d, Nat.add_sub_cancel_left]
    · rw [Nat.min_eq_right (by omega), List.take_of_length_le (by rw [List.length_drop]; omega), List.take_of_length_le (by rw [List.length_drop]; omega)]
theorem at0_take {r : List Int} {n i : Nat} (h : i < n) : at0 (r.take n) i = at0 r i := by
  unfold at0
  rw [List.getD_eq_getElem?_getD, List.getD_eq_getElem?_getD, List.getElem?_take_of_lt h]
theorem el_both {σ : L2.St} {H : Hp} {te t1 t2 : TE} {a : Addr} {r : List Int} {n k : Nat} (h : Ev te σ H (.ref a)) (hR : SqL K H a (r.map V.int)) (h1 : Ev t1 σ H (.int (n : Int))) (h2 : Ev t2 σ H (.int ((n + k : Nat) : Int))) : EvL (tSl (rSlL K) te (tPart t1) (tPart t2)) σ H (((r.drop n).take k).map V.int) := by
  have g := el_sl h (eo_some h1) (eo_some h2) hR
  rw [cutV_both] at g
  rw [List.map_take, List.map_drop]
  exact g
end
section
variable {K : PySem.W.Frag} {σ : L2.St} {H : Hp} {ta tb tc tl : TE} {sp : Sp} {dvs xs : List V} {E : XK} {Q : VK}
theorem el_lrg {n : Nat} (h : Ev ta σ H (.int (n : Int))) (hn : n ≤ 100000) : EvL (tLstRg (tRg1 ta)) σ H ((nl (fun k => k) n).map V.int) := fun H1 e Q q =>
  h H1 e _ fun H2 e2 => ⟨(n : Int), rfl, RgOk.of_le (by omega) (by omega) (by omega) (by omega), fun p hp => by
    have ee : rgV 0 (n : Int) = (nl (fun k => k) n).map V.int := by
      unfold rgV nl
      rw [List.map_map, show ((n : Int) - 0).toNat = n by omega]
      refine List.map_congr_left fun i _ => ?_
      show V.int (0 + (i : Int)) = V.int (i : Int)
      rw [Int.zero_add]
    rw [ee]
    exact q p _ (fresh_back e2 hp) (e2.trans (Ex.new hp)) upd_same⟩
theorem ev_sumN {ns : List Int} (h : EvL tl σ H (ns.map V.int)) : Ev (tCB (fun vs H Q => ∃ (a : Addr) (ns : List Int), vs = [V.ref a] ∧ SqL K H a (ns.map V.int) ∧ Q (V.int ns.sum) H) (tCons tl tNil)) σ H (.int ns.sum) := fun H1 e Q q =>
  h H1 e _ fun p H2 _ e2 g2 => ⟨p, ns, rfl, sq_of g2, q H2 e2⟩
theorem el_eq {ys : List V} (h : EvL tl σ H xs) (e : xs = ys) : EvL tl σ H ys := by
  rw [← e]
  exact h
theorem rv_eqv {r : R2} {x y z z' : V} (h : RV r x y H z) (e : z = z') : RV r x y H z' := by
  rw [← e]
  exact h
theorem el_catB {ys : List V} {a : Addr} (ha : Ev ta σ H (.ref a)) (hx : H a = some (.lst xs)) (hb : EvL tb σ H ys) (hz : xs.length + ys.length ≤ 100000) : EvL (tOp rCat ta tb) σ H (xs ++ ys) := fun H1 e Q q =>
  ha H1 e _ fun H2 e2 => hb H2 (e.trans e2) _ fun p H3 hp e3 h3 => ⟨a, p, xs, ys, rfl, rfl, ((e.trans e2).trans e3) _ _ hx, h3, sz_of hz, fun l hl => q l _ (fresh_back (e2.trans e3) hl) ((e2.trans e3).trans (Ex.new hl)) upd_same⟩
/-- the least, the greatest of a new list, whatever it is -/
theorem run_minN {ns : List Int} (h : EvL tl σ H (ns.map V.int)) (hp : 0 < ns.length) (k : ∀ m H1, Ex H H1 → m ∈ ns → (∀ y ∈ ns, m ≤ y) → Q (.int m) H1) : tCB (rMin K) (tCons tl tNil) σ H Q := h H (Ex.refl H) _ fun p H1 _ e g => ⟨p, ns, rfl, sq_of g, hp, fun m hm hy => k m H1 e hm hy⟩
theorem run_maxN {ns : List Int} (h : EvL tl σ H (ns.map V.int)) (hp : 0 < ns.length) (k : ∀ m H1, Ex H H1 → m ∈ ns → (∀ y ∈ ns, y ≤ m) → Q (.int m) H1) : tCB (rMax K) (tCons tl tNil) σ H Q := h H (Ex.refl H) _ fun p H1 _ e g => ⟨p, ns, rfl, sq_of g, hp, fun m hm hy => k m H1 e hm hy⟩
theorem run_c1L (hl : EvL tl σ H xs) (k : ∀ p H1, Ex H H1 → H1 p = some (.lst xs) → sp ([.ref p] ++ dvs) H1 Q E) : tCall sp dvs E (tCons tl tNil) σ H Q := hl H (Ex.refl H) _ fun p H1 _ e h1 => k p H1 e h1
theorem run_cE {x1 : V} {t1 : TE} (h1 : Ev t1 σ H x1) (hl : EvL tl σ H xs) (k : ∀ p H1, Ex H H1 → H1 p = some (.lst xs) → sp ([x1, .ref p] ++ dvs) H1 Q E) : tCall sp dvs E (tCons t1 (tCons tl tNil)) σ H Q := h1 H (Ex.refl H) _ fun H1 e1 => hl H1 e1 _ fun p H2 _ e2 g2 => k p H2 (e1.trans e2) g2
end
theorem q_asgR {te : TE} {σ : L2.St} {H : Hp} {tz : TS} {D : Ends} {i : Nat} (h : te σ H fun x H1 => tz D (σ.set i (some x)) H1) : tSeq (tAsg te (gName i)) tz D σ H := h
end Ver
namespace Ver
open PySem PySem.Spec PyProof.Rows L2 Evl
section
variable {P : Program} {w : World} {K : PySem.W.Frag} {mg : Str → Option Value} {base : Heap} {C_Round : Addr}
/-! ### is_alphabet -/
def lets : List Nat := [48, 49, 50, 51, 52, 53, 54, 55, 56, 57, 97, 98, 99, 100, 101, 102, 103, 104, 105, 106, 107, 108, 109, 110, 111, 112, 113, 114, 115, 116, 117, 118, 119, 120, 121, 122]
theorem lets_is : Str.ofString "0123456789abcdefghijklmnopqrstuvwxyz" = SX.S lets := by decide +kernel
theorem nil_is : Str.ofString "" = SX.S [] := by decide +kernel
theorem let_mem {c : Nat} (h : (48 ≤ c ∧ c ≤ 57) ∨ (97 ≤ c ∧ c ≤ 122)) : c ∈ lets := by
  have k : ∀ d, d < 123 → ((48 ≤ d ∧ d ≤ 57) ∨ (97 ≤ d ∧ d ≤ 122)) → d ∈ lets := by decide +kernel
  exact k c (by omega) h
def spIsAl : Sp := fun vs H Q _ => ∃ al : List Nat, vs = [tx al] ∧ Alf al ∧ RetV (.bl true) H Q
theorem has_isal (F : At K mg "is_alphabet" s_is_alphabet) (T : Top K mg C_Round) : Has P w K mg base "is_alphabet" s_is_alphabet ["string"] 1 spIsAl := by
  obtain ⟨f, fd, F, m⟩ := F.ex
  obtain ⟨tL, g_LETTERS⟩ := T.g_LETTERS
  obtain ⟨tM, g_MOST_LETTERS⟩ := T.g_MOST_LETTERS
  refine ⟨f, fd, F, F.ok S_is_alphabet (fun vs H Q E h => ?_) (fun cdv A outer s H vs Q E hr h => ?_), F.binds fun _ _ _ _ _ _ us hl => match us, hl with | [_], _ => rfl, m, F.kp⟩
  · obtain ⟨al, rfl, _⟩ := h
    rfl
  obtain ⟨al, rfl, hA, q⟩ := h
  refine ⟨_, (pss_cons
    (ps_if (PW.pt (pw_or (pt_cmpR op_lt (pe_callB call_len_str rfl T.z_len PySem.boot_len (pa_cons (pv 0) pa_nil)) pe_int (nomark _)) (pw_or1 (pt_cmpR op_gt (pe_callB call_len_str rfl T.z_len PySem.boot_len (pa_cons (pv 0) pa_nil)) (pe_glob (v := .int 6) rfl g_MOST_LETTERS ⟨_, rfl⟩) (nomark _))))) (pss_one
    (ps_ret pe_bl)) pss_nil)
    (pss_cons
    (ps_if (pt_cmpR op_ne (pe_bm PySem.F.plainAttrs_str PySem.F.slot_str_strip PySem.F.type_str_strip mt_stripChars (pv 0) (pa_cons (pe_glob (v := .str (Str.ofString "0123456789abcdefghijklmnopqrstuvwxyz")) rfl g_LETTERS ⟨_, rfl⟩) pa_nil)) pe_str (nomark _)) (pss_one
    (ps_ret pe_bl)) pss_nil)
    (pss_one
    (ps_ret (pe_callB (cr_all rfl) rfl T.z_all (by decide +kernel) (pa_cons (pe_lc (own := [("one", 1), ("two", 2)]) (g := gTup K 2 (gCons (gName 1) (gCons (gName 2) gNil))) (tt := tYes) rfl S_is_alphabet.nd (pi_zipS rfl T.z_zip (pa_cons (pv 0) (pa_cons (pe_slice sl_str (pv 0) (po_some pe_int) po_none) pa_nil))) (blkOk_by (N := N_is_alphabet) (sc := defScope s_is_alphabet) (by decide +kernel)) (fun _ _ _ _ _ => pg_tup rfl (pgs_cons (pg_name (i := 1) S_is_alphabet.nd rfl (Or.inl rfl)) (pgs_cons (pg_name (i := 2) S_is_alphabet.nd rfl (Or.inl rfl)) pgs_nil))) (fun _ _ _ _ _ => pts_nil) (fun _ _ _ _ _ => (pe_cmpR op_lt_str (pv 1) (pv 2) (nomark _)))) pa_nil)))))), ?_⟩
  have h6 := hA.six
  have h1 := hA.pos
  refine q_skip (et_is (et_or (et_lt (ev_lenS (by omega) (ev_var rfl)) ev_c) (fun _ => et_gt (ev_lenS (by omega) (ev_var rfl)) ev_c)) (by rw [decide_eq_false (show ¬ (al.length : Int) < 1 by omega), decide_eq_false (show ¬ (6 : Int) < (al.length : Int) by omega)]; rfl)) fun H1 e1 => ?_
  have hst : Txt.stripChars (SX.S al) (Str.ofString "0123456789abcdefghijklmnopqrstuvwxyz") = SX.S [] := by
    rw [lets_is]
    exact strip_chars fun c hc => let_mem (hA.let' c hc)
  refine q_skip (et_is (et_test (ev_op (ev_bm (z := tx []) (ev_var rfl) (fun _ _ => rfl) (ea_cons ev_c ea_nil) fun H2 _ Q' q' => ⟨SX.S al, _, rfl, rfl, by rw [SX.S_len]; exact sz_of (by omega), by rw [hst]; exact q' H2 (Ex.refl H2)⟩) ev_c (rv_ne rfl))) (by rw [nil_is]; simp)) fun H2 e2 => ?_
  refine s_ret (ev_is (ev_allN (bs := (List.range (min al.length (al.drop 1).length)).map fun i => decide (al.getD i 0 < (al.drop 1).getD i 0)) ?_) ?_) fun H3 e3 => q H3 ((e1.trans e2).trans e3)
  · have g := el_lcZ (K := K) (σ := [some (tx al), none, none]) (H := H2) (x := al) (y := al.drop 1) (tp := tCons (tVar 0) (tCons (tSl rSlS (tVar 0) (tPart (tC (.int 1))) tNoPart) tNil)) (j1 := 1) (j2 := 2) (vs := [1, 2]) (te := tOp (fun x y H Q => ∃ i j : Str, x = .str i ∧ y = .str j ∧ Q (.bl (decide (i.cps.toList < j.cps.toList))) H) (tVar 1) (tVar 2))
      (fun i => V.bl (decide (al.getD i 0 < (al.drop 1).getD i 0)))
      (ea_cons (ev_var rfl) (ea_cons (ev_is (ev_slS (by omega) (ev_var rfl) (eo_some (i := ((1 : Nat) : Int)) ev_c) eo_none) (by rw [cutL_from])) ea_nil)) (by omega) (fun a b => rfl) (fun i c d H3 e3 hc hd => ?_)
    · rw [List.map_map]
      exact g
    · have ec : al.getD i 0 = c := by
        rw [List.getD_eq_getElem?_getD, hc]
        rfl
      have ed : (al.drop 1).getD i 0 = d := by
        rw [List.getD_eq_getElem?_getD, hd]
        rfl
      rw [ec, ed]
      refine ev_is (ev_op (ev_var rfl) (ev_var rfl) rv_ltS) ?_
      congr 1
      refine decide_eq_decide.mpr ?_
      constructor
      · intro h
        cases h with
        | rel h => exact h
        | cons h => cases h
      · exact fun h => List.Lex.rel h
  · congr 1
    rw [List.all_eq_true]
    intro b hb
    obtain ⟨i, hi, rfl⟩ := List.mem_map.mp hb
    have hi := List.mem_range.mp hi
    have hl : (al.drop 1).length = al.length - 1 := List.length_drop
    show decide _ = true
    refine decide_eq_true ?_
    rw [List.getD_eq_getElem?_getD, List.getD_eq_getElem?_getD, List.getElem?_drop, List.getElem?_eq_getElem (by omega), List.getElem?_eq_getElem (by omega)]
    exact List.pairwise_iff_getElem.mp hA.asc i (1 + i) (by omega) (by omega) (by omega)
theorem sv_isal {al : List Nat} {H : Hp} (h : Alf al) : SpV spIsAl ([tx al] ++ []) H (.bl true) := fun _ _ _ q _ => ⟨al, rfl, h, q⟩
/-! ### check_alphabet, check_text -/
def spCkAl : Sp := fun vs H Q _ => ∃ al : List Nat, vs = [tx al] ∧ Alf al ∧ RetV .non H Q
theorem has_ckal (F : At K mg "check_alphabet" s_check_alphabet) (T : Top K mg C_Round) (h1 : Has P w K mg base "is_alphabet" s_is_alphabet ["string"] 1 spIsAl) : Has P w K mg base "check_alphabet" s_check_alphabet ["alphabet"] 2 spCkAl := by
  obtain ⟨f, fd, F, m⟩ := F.ex
  obtain ⟨f1, fd1, _, G_is_alphabet, b_is_alphabet, m_is_alphabet, k_is_alphabet⟩ := h1
  refine ⟨f, fd, F, F.ok S_check_alphabet (fun vs H Q E h => ?_) (fun cdv A outer s H vs Q E hr h => ?_), F.binds fun _ _ _ _ _ _ us hl => match us, hl with | [_], _ => rfl, m, F.kp⟩
  · obtain ⟨al, rfl, _⟩ := h
    rfl
  obtain ⟨al, rfl, hA, q⟩ := h
  refine ⟨_, (pss_one
    (ps_if (pt_not (pt_val (pe_call G_is_alphabet (hr.mono (by decide)) rfl m_is_alphabet k_is_alphabet b_is_alphabet .nil pass0 (pa_cons (pv 0) pa_nil)))) (pss_one
    ps_never) pss_nil)), ?_⟩
  exact s_skip (et_not (et_B (ev_call (ea_cons (ev_var rfl) ea_nil) (sv_isal hA)))) fun H1 e1 => q H1 e1
theorem sv_ckal {al : List Nat} {H : Hp} (h : Alf al) : SpV spCkAl ([tx al] ++ []) H .non := fun _ _ _ q _ => ⟨al, rfl, h, q⟩
def spCkTx : Sp := fun vs H Q _ => ∃ al v : List Nat, vs = [tx al, tx v] ∧ (∀ c ∈ v, c ∈ al) ∧ v.length ≤ 100000 ∧ RetV .non H Q
theorem has_cktx (F : At K mg "check_text" s_check_text) (T : Top K mg C_Round) : Has P w K mg base "check_text" s_check_text ["alphabet", "text"] 1 spCkTx := by
  obtain ⟨f, fd, F, m⟩ := F.ex
  refine ⟨f, fd, F, F.ok S_check_text (fun vs H Q E h => ?_) (fun cdv A outer s H vs Q E hr h => ?_), F.binds fun _ _ _ _ _ _ us hl => match us, hl with | [_, _], _ => rfl, m, F.kp⟩
  · obtain ⟨al, v, rfl, _⟩ := h
    rfl
  obtain ⟨al, v, rfl, hv, hz, q⟩ := h
  refine ⟨_, (pss_cons
    (ps_set (i := 2) S_check_text.nd rfl (Or.inl rfl) (pe_bm PySem.F.plainAttrs_str PySem.F.slot_str_lstrip PySem.F.type_str_lstrip mt_lstripChars (pv 1) (pa_cons (pv 0) pa_nil)))
    (pss_one
    (ps_if (pt_cmpR op_ne (pv 2) pe_str (nomark _)) (pss_one
    ps_never) pss_nil))), ?_⟩
  refine q_asg (v := tx []) (ev_bm (ev_var rfl) (fun _ _ => rfl) (ea_cons (ev_var rfl) ea_nil) fun H2 _ Q' q' => ⟨SX.S v, SX.S al, rfl, rfl, by rw [SX.S_len]; exact sz_of hz, by rw [lstrip_chars hv]; exact q' H2 (Ex.refl H2)⟩) fun H1 e1 => ?_
  exact s_skip (et_is (et_test (ev_op (ev_var rfl) ev_c (rv_ne rfl))) (by rw [nil_is]; simp)) fun H2 e2 => q H2 (e1.trans e2)
theorem sv_cktx {al v : List Nat} {H : Hp} (h : ∀ c ∈ v, c ∈ al) (hz : v.length ≤ 100000) : SpV spCkTx ([tx al, tx v] ++ []) H .non := fun _ _ _ q _ => ⟨al, v, rfl, h, hz, q⟩
end
end Ver
namespace Ver
/-! ### endless texts: the mathematics -/
/-- the letters of an endless text -/
def ex (h r : List Nat) (i : Nat) : Nat := if i < h.length then h.getD i 0 else r.getD ((i - h.length) % r.length) 0
theorem ex_head {h r : List Nat} {i : Nat} (c : i < h.length) : ex h r i = h.getD i 0 := if_pos c
theorem ex_ring {h r : List Nat} {i : Nat} (c : h.length ≤ i) : ex h r i = r.getD ((i - h.length) % r.length) 0 := if_neg (by omega)
theorem ex_add {h r : List Nat} (j : Nat) : ex h r (h.length + j) = r.getD (j % r.length) 0 := by
  rw [ex_ring (by omega), Nat.add_sub_cancel_left]
theorem ex_per {h r : List Nat} {i : Nat} (c : h.length ≤ i) : ex h r (i + r.length) = ex h r i := by
  rw [ex_ring c, ex_ring (by omega), show i + r.length - h.length = (i - h.length) + r.length by omega, Nat.add_mod_right]
/-- the first n letters -/
def beg (e : Nat → Nat) (n : Nat) : List Nat := (List.range n).map e
/-- the word of length j at the place i -/
def wrd (e : Nat → Nat) (j i : Nat) : List Nat := (List.range j).map fun x => e (i + x)
theorem wrd_eq {e : Nat → Nat} {j a b : Nat} : wrd e j a = wrd e j b ↔ ∀ x, x < j → e (a + x) = e (b + x) := by
  unfold wrd
  constructor
  · intro h x hx
    have := congrArg (fun l => l[x]?) h
    simp only [List.getElem?_map, List.getElem?_range hx, Option.map_some, Option.some.injEq] at this
    exact this
  · intro h
    exact List.map_congr_left fun x hx => h x (List.mem_range.mp hx)
theorem wrd_succ {e : Nat → Nat} {j a b : Nat} : wrd e (j + 1) a = wrd e (j + 1) b ↔ e a = e b ∧ wrd e j (a + 1) = wrd e j (b + 1) := by
  rw [wrd_eq, wrd_eq]
  constructor
  · intro h
    refine ⟨h 0 (by omega), fun x hx => ?_⟩
    have := h (x + 1) (by omega)
    rw [show a + 1 + x = a + (x + 1) by omega, show b + 1 + x = b + (x + 1) by omega]
    exact this
  · rintro ⟨h0, h1⟩ x hx
    cases x with
    | zero => exact h0
    | succ y =>
      have := h1 y (by omega)
      rw [show a + (y + 1) = a + 1 + y by omega, show b + (y + 1) = b + 1 + y by omega]
      exact this
theorem wrd_low {e : Nat → Nat} {j k a b : Nat} (h : wrd e k a = wrd e k b) (hj : j ≤ k) : wrd e j a = wrd e j b :=
  wrd_eq.mpr fun x hx => wrd_eq.mp h x (by omega)
/-! ### how many different ones -/
/-- the number of different f a, a < n -/
def dif {κ : Type} [DecidableEq κ] (f : Nat → κ) : Nat → Nat
  | 0 => 0
  | n + 1 => dif f n + if ∃ b, b < n ∧ f b = f n then 0 else 1
section
variable {κ ι : Type} [DecidableEq κ] [DecidableEq ι]
theorem dif_le (f : Nat → κ) : ∀ n, dif f n ≤ n
  | 0 => Nat.le_refl 0
  | n + 1 => by
    have := dif_le f n
    unfold dif
    split <;> omega
theorem dif_mono (f : Nat → κ) (g : Nat → ι) : ∀ n, (∀ a b, a < n → b < n → g a = g b → f a = f b) → dif f n ≤ dif g n
  | 0, _ => Nat.le_refl 0
  | n + 1, h => by
    have ih := dif_mono f g n fun a b ha hb => h a b (by omega) (by omega)
    unfold dif
    by_cases c : ∃ b, b < n ∧ g b = g n
    · have c2 : ∃ b, b < n ∧ f b = f n := by
        obtain ⟨b, hb, e⟩ := c
        exact ⟨b, hb, h b n (by omega) (by omega) e⟩
      rw [if_pos c, if_pos c2]
      omega
    · rw [if_neg c]
      split <;> omega
theorem dif_congr {f : Nat → κ} {g : Nat → ι} {n : Nat} (h : ∀ a b, a < n → b < n → (f a = f b ↔ g a = g b)) : dif f n = dif g n :=
  Nat.le_antisymm (dif_mono f g n fun a b ha hb => (h a b ha hb).mpr) (dif_mono g f n fun a b ha hb => (h a b ha hb).mp)
/-- as many, so the same parts -/
theorem dif_same {f : Nat → κ} {g : Nat → ι} : ∀ n, (∀ a b, a < n → b < n → g a = g b → f a = f b) → dif f n = dif g n → ∀ a b, a < n → b < n → f a = f b → g a = g b
  | 0, _, _, a, b, ha, _, _ => absurd ha (Nat.not_lt_zero _)
  | n + 1, h, e, a, b, ha, hb, ef => by
    have h' : ∀ a b, a < n → b < n → g a = g b → f a = f b := fun a b ha hb => h a b (by omega) (by omega)
    have m := dif_mono f g n h'
    unfold dif at e
    have key : dif f n = dif g n ∧ ((∃ b, b < n ∧ f b = f n) → ∃ b, b < n ∧ g b = g n) := by
      by_cases c : ∃ b, b < n ∧ g b = g n
      · have c2 : ∃ b, b < n ∧ f b = f n := by
          obtain ⟨b, hb, e⟩ := c
          exact ⟨b, hb, h b n (by omega) (by omega) e⟩
        rw [if_pos c, if_pos c2] at e
        exact ⟨e, fun _ => c⟩
      · rw [if_neg c] at e
        by_cases c2 : ∃ b, b < n ∧ f b = f n
        · rw [if_pos c2] at e
          omega
        · rw [if_neg c2] at e
          exact ⟨by omega, fun z => absurd z c2⟩
    have ih := dif_same n h' key.1
    have last : ∀ a, a < n → f a = f n → g a = g n := by
      intro a ha ef
      obtain ⟨b, hb, eg⟩ := key.2 ⟨a, ha, ef⟩
      have e2 := h b n (by omega) (by omega) eg
      rw [← eg]
      exact ih a b ha hb (ef.trans e2.symm)
    by_cases ca : a < n
    · by_cases cb : b < n
      · exact ih a b ca cb ef
      · have : b = n := by omega
        subst this
        exact last a ca ef
    · have : a = n := by omega
      subst this
      by_cases cb : b < a
      · exact (last b cb ef.symm).symm
      · have : b = a := by omega
        subst this
        rfl
/-- all different -/
theorem dif_all {f : Nat → κ} {n : Nat} (h : dif f n = n) : ∀ a b, a < n → b < n → f a = f b → a = b := by
  have e : dif f n = dif (fun i : Nat => i) n := by
    rw [h]
    clear h
    induction n with
    | zero => rfl
    | succ n ih =>
      unfold dif
      rw [← ih, if_neg]
      rintro ⟨b, hb, e⟩
      have : b = n := e
      omega
  exact dif_same n (fun a b _ _ q => by rw [show a = b from q]) e
theorem dif_of_all {f : Nat → κ} : ∀ n, (∀ a b, a < n → b < n → f a = f b → a = b) → dif f n = n
  | 0, _ => rfl
  | n + 1, h => by
    unfold dif
    rw [dif_of_all n fun a b ha hb => h a b (by omega) (by omega), if_neg]
    rintro ⟨b, hb, e⟩
    have := h b n (by omega) (by omega) e
    omega
/-- more places with nothing new -/
theorem dif_more {f : Nat → κ} {n : Nat} : ∀ k, (∀ i, i < k → ∃ b, b < n ∧ f b = f (n + i)) → dif f (n + k) = dif f n
  | 0, _ => rfl
  | k + 1, h => by
    have h9 : ∃ b, b < n + k ∧ f b = f (n + k) := by
      obtain ⟨b, hb, e⟩ := h k (by omega)
      exact ⟨b, by omega, e⟩
    show dif f (n + k) + (if ∃ b, b < n + k ∧ f b = f (n + k) then 0 else 1) = _
    rw [if_pos h9, dif_more k (fun i hi => h i (by omega)), Nat.add_zero]
end
/-! ### the least form -/
/-- N beginnings' rests are different, the rest behind N is an earlier one's -/
structure Vty (e : Nat → Nat) (N : Nat) : Prop where
  dist : ∀ a b, a < N → b < N → (∀ x, e (a + x) = e (b + x)) → a = b
  back : ∃ s, s < N ∧ ∀ x, e (N + x) = e (s + x)
theorem Vty.one {e : Nat → Nat} {N M : Nat} (h : Vty e N) (k : Vty e M) : N = M := by
  have go : ∀ {N M : Nat}, Vty e N → Vty e M → ¬ N < M := by
    intro N M h k c
    obtain ⟨s, hs, q⟩ := h.back
    have := k.dist N s c (by omega) q
    omega
  have := go h k
  have := go k h
  omega
/-- each place's rest is that of a place below N -/
theorem Vty.low {e : Nat → Nat} {N : Nat} (h : Vty e N) : ∀ i, ∃ b, b < N ∧ ∀ x, e (i + x) = e (b + x)
  | 0 => by
    obtain ⟨s, hs, _⟩ := h.back
    exact ⟨0, by omega, fun _ => rfl⟩
  | i + 1 => by
    obtain ⟨b, hb, q⟩ := h.low i
    by_cases c : b + 1 < N
    · exact ⟨b + 1, c, fun x => by rw [show i + 1 + x = i + (1 + x) by omega, show b + 1 + x = b + (1 + x) by omega, q]⟩
    · obtain ⟨s, hs, q2⟩ := h.back
      refine ⟨s, hs, fun x => ?_⟩
      rw [← q2 x, show i + 1 + x = i + (1 + x) by omega, q, show b + (1 + x) = N + x by omega]
def cnt (e : Nat → Nat) (N j : Nat) : Nat := dif (wrd e j) N
theorem cnt_le (e : Nat → Nat) (N j : Nat) : cnt e N j ≤ N := dif_le _ _
theorem cnt_mono {e : Nat → Nat} {N j k : Nat} (h : j ≤ k) : cnt e N j ≤ cnt e N k := dif_mono _ _ _ fun _ _ _ _ q => wrd_low q h
theorem cnt_zero {e : Nat → Nat} {N : Nat} (h : 0 < N) : cnt e N 0 = 1 := by
  have e1 : dif (wrd e 0) N = dif (fun _ : Nat => (0 : Nat)) N := dif_congr fun a b _ _ => ⟨fun _ => rfl, fun _ => rfl⟩
  unfold cnt
  rw [e1]
  have : ∀ n, dif (fun _ : Nat => (0 : Nat)) (n + 1) = 1 := by
    intro n
    induction n with
    | zero =>
      unfold dif dif
      rw [if_neg (by rintro ⟨b, hb, _⟩; omega)]
    | succ n ih =>
      unfold dif
      rw [ih, if_pos ⟨0, by omega, rfl⟩]
  obtain ⟨n, rfl⟩ : ∃ n, N = n + 1 := ⟨N - 1, by omega⟩
  exact this n
/-- the places may be more -/
theorem cnt_more {e : Nat → Nat} {N M j : Nat} (h : Vty e N) (hM : N ≤ M) : cnt e M j = cnt e N j := by
  obtain ⟨k, rfl⟩ := Nat.exists_eq_add_of_le hM
  refine dif_more k fun i _ => ?_
  obtain ⟨b, hb, q⟩ := h.low (N + i)
  exact ⟨b, hb, wrd_eq.mpr fun x _ => (q x).symm⟩
/-- the numbers rise to N -/
theorem cnt_rise {e : Nat → Nat} {N j : Nat} (h : Vty e N) (c : cnt e N j < N) : cnt e N j < cnt e N (j + 1) := by
  have m : cnt e N j ≤ cnt e N (j + 1) := cnt_mono (by omega)
  refine Nat.lt_of_le_of_ne m fun eq => ?_
  have same := dif_same (f := wrd e j) (g := wrd e (j + 1)) N (fun a b _ _ q => wrd_low q (by omega)) eq
  have all : ∀ k a b, a < N → b < N → wrd e j a = wrd e j b → e (a + k) = e (b + k) := by
    intro k
    induction k with
    | zero =>
      intro a b ha hb q
      exact (wrd_succ.mp (same a b ha hb q)).1
    | succ k ih =>
      intro a b ha hb q
      have q2 := (wrd_succ.mp (same a b ha hb q)).2
      obtain ⟨a', ha', qa⟩ := h.low (a + 1)
      obtain ⟨b', hb', qb⟩ := h.low (b + 1)
      have := ih a' b' ha' hb' (wrd_eq.mpr fun x hx => by rw [← qa, ← qb]; exact wrd_eq.mp q2 x hx)
      rw [← qa, ← qb] at this
      rw [show a + (k + 1) = a + 1 + k by omega, show b + (k + 1) = b + 1 + k by omega]
      exact this
  have := dif_of_all (f := wrd e j) N fun a b ha hb q => h.dist a b ha hb fun x => all x a b ha hb q
  unfold cnt at c
  omega
theorem cnt_low {e : Nat → Nat} {N : Nat} (h : Vty e N) (hN : 0 < N) : ∀ j, min N (j + 1) ≤ cnt e N j
  | 0 => by
    rw [cnt_zero hN]
    omega
  | j + 1 => by
    have ih := cnt_low h hN j
    by_cases c : cnt e N j < N
    · have := cnt_rise h c
      omega
    · have : cnt e N j ≤ cnt e N (j + 1) := cnt_mono (by omega)
      omega
theorem cnt_full {e : Nat → Nat} {N j : Nat} (h : Vty e N) (hN : 0 < N) (hj : N ≤ j + 1) : cnt e N j = N := by
  have := cnt_low h hN j
  have := cnt_le e N j
  omega
/-! ### a least period makes a least form -/
/-- p is the least period of f -/
structure Per (f : Nat → Nat) (p : Nat) : Prop where
  pos : 0 < p
  per : ∀ x, f (x + p) = f x
  least : ∀ q, 0 < q → q < p → ∃ x, f (x + q) ≠ f x
theorem Per.times {f : Nat → Nat} {p : Nat} (h : Per f p) : ∀ k x, f (x + k * p) = f x
  | 0, x => by rw [Nat.zero_mul, Nat.add_zero]
  | k + 1, x => by
    rw [Nat.succ_mul, ← Nat.add_assoc, h.per, h.times k]
theorem Per.mod {f : Nat → Nat} {p : Nat} (h : Per f p) (x : Nat) : f (x % p) = f x := by
  have := h.times (x / p) (x % p)
  rw [Nat.mul_comm, Nat.mod_add_div] at this
  exact this.symm
/-- each period from some place on is a multiple -/
theorem Per.dvd {f : Nat → Nat} {p q m : Nat} (h : Per f p) (hq : ∀ x, m ≤ x → f (x + q) = f x) : q % p = 0 := by
  refine Classical.byContradiction fun hn => ?_
  have hlt := Nat.mod_lt q h.pos
  obtain ⟨x, hx⟩ := h.least (q % p) (by omega) hlt
  refine hx ?_
  have hmp : m ≤ m * p := Nat.le_mul_of_pos_right m h.pos
  have e1 : f (x + q % p) = f (x + q % p + (q / p) * p + m * p) := by rw [h.times, h.times]
  have e2 : x + q % p + (q / p) * p + m * p = (x + m * p) + q := by
    have := Nat.mod_add_div q p
    rw [Nat.mul_comm] at this
    omega
  rw [e1, e2, hq _ (by omega), h.times]
/-- from H on the letters are those of f, from s on with period p, and not from s - 1 on -/
theorem vty_of {e f : Nat → Nat} {H s p : Nat} (hp : Per f p) (hs : s ≤ H) (hf : ∀ x, e (H + x) = f x) (per : ∀ i, s ≤ i → e (i + p) = e i) (top : 0 < s → e (s - 1 + p) ≠ e (s - 1)) : Vty e (s + p) := by
  have pos := hp.pos
  have shift : ∀ i, s ≤ i → ∀ k, e (i + k * p) = e i := by
    intro i hi k
    induction k with
    | zero => rw [Nat.zero_mul, Nat.add_zero]
    | succ k ih => rw [Nat.succ_mul, ← Nat.add_assoc, per _ (by omega), ih]
  -- a place from s on, by f
  have byf : ∀ i, s ≤ i → ∃ y, ∀ x, e (i + x) = f (y + x) := by
    intro i hi
    refine ⟨i + H * p - H, fun x => ?_⟩
    have h1 : H ≤ H * p := Nat.le_mul_of_pos_right H pos
    rw [← shift (i + x) (by omega) H, ← hf, show H + (i + H * p - H + x) = i + x + H * p by omega]
  refine ⟨?_, s, by omega, fun x => by rw [show s + p + x = (s + x) + p by omega, per _ (by omega)]⟩
  have main : ∀ a b, a < b → b < s + p → ¬ ∀ x, e (a + x) = e (b + x) := by
    intro a b hab hb q
    -- b - a is a period of f from some place on
    have hq : (b - a) % p = 0 := hp.dvd (m := a) fun x hx => by
      have := q (x + H - a)
      rw [show a + (x + H - a) = H + x by omega, show b + (x + H - a) = H + (x + (b - a)) by omega, hf, hf] at this
      exact this.symm
    obtain ⟨k, hk⟩ := Nat.dvd_of_mod_eq_zero hq
    have hk1 : 1 ≤ k := by
      rcases Nat.eq_zero_or_pos k with z | z
      · rw [z, Nat.mul_zero] at hk
        omega
      · exact z
    have hpk : p ≤ p * k := Nat.le_mul_of_pos_right p hk1
    have has : a < s := by omega
    refine top (by omega) ?_
    have e1 := q (s - 1 - a)
    rw [show a + (s - 1 - a) = s - 1 by omega, show b + (s - 1 - a) = (s - 1 + p) + (k - 1) * p by
      have e3 : k * p = (k - 1) * p + p := by
        rw [← Nat.succ_mul]
        congr 1
        omega
      have e4 : p * k = k * p := Nat.mul_comm ..
      omega] at e1
    rw [e1, shift _ (by omega)]
  intro a b ha hb q
  rcases Nat.lt_trichotomy a b with c | c | c
  · exact absurd q (main a b c hb)
  · exact c
  · exact absurd (fun x => (q x).symm) (main b a c ha)
end Ver
namespace Ver
open PySem PySem.Spec PyProof.Rows L2 Evl
/-- the letters of a ring, again and again -/
def rd (r : List Nat) (x : Nat) : Nat := r.getD (x % r.length) 0
theorem rd_mod {r : List Nat} (x : Nat) : rd r (x % r.length) = rd r x := by
  unfold rd
  rw [Nat.mod_mod]
theorem rd_low {r : List Nat} {x : Nat} (h : x < r.length) : rd r x = r.getD x 0 := by
  unfold rd
  rw [Nat.mod_eq_of_lt h]
theorem rd_len {r : List Nat} (x : Nat) : rd r (x + r.length) = rd r x := by
  unfold rd
  rw [Nat.add_mod_right]
theorem rr_at {r : List Nat} {j : Nat} (h : j < r.length + r.length) : (r ++ r)[j]? = some (rd r j) := by
  by_cases c : j < r.length
  · rw [List.getElem?_append_left c, rd_low c, take_getD c]
  · rw [List.getElem?_append_right (by omega), take_getD (by omega)]
    obtain ⟨k, rfl⟩ := Nat.exists_eq_add_of_le (show r.length ≤ j by omega)
    rw [Nat.add_sub_cancel_left, Nat.add_comm, rd_len, rd_low (by omega)]
theorem occ_iff {r : List Nat} {k : Nat} (hk : k ≤ r.length) : ((r ++ r).drop k).take r.length = r ↔ ∀ x, rd r (x + k) = rd r x := by
  by_cases z : r.length = 0
  · have : r = [] := List.length_eq_zero_iff.mp z
    subst this
    exact ⟨fun _ x => rfl, fun _ => by simp⟩
  constructor
  · intro h x
    have hx := Nat.mod_lt x (show 0 < r.length by omega)
    have e := congrArg (fun l => l[x % r.length]?) h
    simp only [List.getElem?_take_of_lt hx, List.getElem?_drop] at e
    rw [rr_at (by omega), take_getD hx] at e
    have e2 := Option.some.inj e
    rw [← rd_low hx, rd_mod] at e2
    rw [← e2, ← rd_mod (k + x % r.length), ← rd_mod (x + k), Nat.add_mod_mod, Nat.add_comm]
  · intro h
    refine List.ext_getElem? fun j => ?_
    by_cases c : j < r.length
    · rw [List.getElem?_take_of_lt c, List.getElem?_drop, rr_at (by omega), take_getD c, Nat.add_comm, h, rd_low c]
    · rw [List.getElem?_eq_none (by rw [List.length_take]; omega), List.getElem?_eq_none (by omega)]
/-- (ring + ring).find(ring, 1) is the least period -/
theorem find_ring {r : List Nat} (h : 0 < r.length) : ∃ p : Nat, Txt.find3 (SX.S (r ++ r)) (SX.S r) 1 = (p : Int) ∧ p ≤ r.length ∧ Per (rd r) p := by
  have hat : ∀ i, StrLaws.At (SX.S (r ++ r)) (SX.S r) (SX.S (r ++ r)).length i ↔ i ≤ r.length ∧ ((r ++ r).drop i).take r.length = r := by
    intro i
    unfold StrLaws.At
    rw [StrLaws.subAt_eq, SX.S_len, SX.S_len, List.length_append]
    show (i + r.length ≤ r.length + r.length ∧ (((r ++ r).drop i).take r.length == r) = true) ↔ _
    rw [beq_iff_eq]
    constructor
    · exact fun h => ⟨by omega, h.2⟩
    · exact fun h => ⟨by omega, h.2⟩
  have full : StrLaws.At (SX.S (r ++ r)) (SX.S r) (SX.S (r ++ r)).length r.length := (hat _).mpr ⟨Nat.le_refl _, by simp⟩
  have e1 : PySem.fromIndex (SX.S (r ++ r)).length 1 = 1 := by
    unfold PySem.fromIndex
    omega
  unfold Txt.find3
  rw [e1]
  rcases StrLaws.occ_head_from (SX.S (r ++ r)) (SX.S r) 1 1 (Nat.le_refl 1) with ⟨h0, hn⟩ | ⟨k, rest, h0, hlo, hk, hn⟩
  · exact absurd full (hn _ h)
  · rw [h0]
    obtain ⟨k1, k2⟩ := (hat k).mp hk
    refine ⟨k, rfl, k1, by omega, (occ_iff k1).mp k2, fun q h1 h2 => ?_⟩
    refine Classical.byContradiction fun hc => hn q h1 h2 ((hat q).mpr ⟨by omega, (occ_iff (by omega)).mpr fun x => ?_⟩)
    exact Classical.byContradiction fun hx => hc ⟨x, hx⟩
theorem ex_rd {h r : List Nat} (j : Nat) : ex h r (h.length + j) = rd r j := ex_add j
theorem ex_rd' {h r : List Nat} {i : Nat} (c : h.length ≤ i) : ex h r i = rd r (i - h.length) := ex_ring c
/-! ### the form of a Round -/
/-- t letters of the head are those of the ring before it -/
structure Tnd (h r : List Nat) (p t : Nat) : Prop where
  le : t ≤ h.length
  eq : ∀ u, u < t → h.getD (h.length - 1 - u) 0 = rd r (p - 1 - u % p)
  top : t < h.length → h.getD (h.length - 1 - t) 0 ≠ rd r (p - 1 - t % p)
theorem Tnd.ahead {h r : List Nat} {p t : Nat} (T : Tnd h r p t) (P : Per (rd r) p) {u : Nat} (hu : u ≤ t) (hu2 : u < h.length) : ex h r (h.length - 1 - u + p) = rd r (p - 1 - u % p) := by
  have pos := P.pos
  by_cases c : u < p
  · rw [ex_rd' (by omega), Nat.mod_eq_of_lt c]
    congr 1
    omega
  · rw [ex_head (by omega), show h.length - 1 - u + p = h.length - 1 - (u - p) by omega, T.eq (u - p) (by omega), Nat.mod_eq_sub_mod (show p ≤ u by omega)]
theorem Tnd.per {h r : List Nat} {p t : Nat} (T : Tnd h r p t) (P : Per (rd r) p) {i : Nat} (hi : h.length - t ≤ i) : ex h r (i + p) = ex h r i := by
  by_cases c : h.length ≤ i
  · rw [ex_rd' c, ex_rd' (by omega), show i + p - h.length = (i - h.length) + p by omega, P.per]
  · have le := T.le
    have e := T.ahead P (u := h.length - 1 - i) (by omega) (by omega)
    rw [show h.length - 1 - (h.length - 1 - i) = i by omega] at e
    have e2 := T.eq (h.length - 1 - i) (by omega)
    rw [show h.length - 1 - (h.length - 1 - i) = i by omega] at e2
    rw [e, ex_head (by omega), e2]
theorem Tnd.vty {h r : List Nat} {p t : Nat} (T : Tnd h r p t) (P : Per (rd r) p) : Vty (ex h r) (h.length - t + p) := by
  have le := T.le
  refine vty_of (H := h.length) P (by omega) (fun x => ex_rd x) (fun i hi => T.per P hi) fun c => ?_
  have e := T.ahead P (u := t) (Nat.le_refl _) (by omega)
  rw [show h.length - 1 - t = h.length - t - 1 by omega] at e
  rw [e, ex_head (by omega)]
  have top := T.top (by omega)
  rw [show h.length - 1 - t = h.length - t - 1 by omega] at top
  exact fun z => top z.symm
/-- the ring turned -/
def trn (r : List Nat) (p k : Nat) : List Nat := (r.take p).drop k ++ (r.take p).take k
theorem trn_len {r : List Nat} {p k : Nat} (hp : p ≤ r.length) (hk : k ≤ p) : (trn r p k).length = p := by
  unfold trn
  simp only [List.length_append, List.length_drop, List.length_take]
  omega
theorem trn_at {r : List Nat} {p k j : Nat} (P : Per (rd r) p) (hp : p ≤ r.length) (hk : k ≤ p) (hj : j < p) : (trn r p k).getD j 0 = rd r (k + j) := by
  have hl : (r.take p).length = p := by
    rw [List.length_take]
    omega
  have low : ∀ i, i < p → (r.take p)[i]? = some (rd r i) := by
    intro i hi
    rw [List.getElem?_take_of_lt hi, take_getD (by omega), rd_low (by omega)]
  unfold trn
  rw [List.getD_eq_getElem?_getD]
  by_cases c : j < p - k
  · rw [List.getElem?_append_left (by rw [List.length_drop, hl]; exact c), List.getElem?_drop, low _ (by omega)]
    rfl
  · rw [List.getElem?_append_right (by rw [List.length_drop, hl]; omega), List.length_drop, hl, List.getElem?_take_of_lt (by omega), low _ (by omega)]
    show rd r (j - (p - k)) = rd r (k + j)
    rw [show k + j = (j - (p - k)) + p by omega, P.per]
/-- the least form tells the same text -/
theorem Tnd.same {h r : List Nat} {p t : Nat} (T : Tnd h r p t) (P : Per (rd r) p) (hp : p ≤ r.length) (i : Nat) : ex (h.take (h.length - t)) (trn r p (p - t % p)) i = ex h r i := by
  have le := T.le
  have pos := P.pos
  have hm := Nat.mod_lt t pos
  have hl : (h.take (h.length - t)).length = h.length - t := by
    rw [List.length_take]
    omega
  by_cases c : i < h.length - t
  · rw [ex_head (by rw [hl]; exact c), ex_head (by omega), List.getD_eq_getElem?_getD, List.getElem?_take_of_lt c, ← List.getD_eq_getElem?_getD]
  · rw [ex_ring (by rw [hl]; omega), hl, trn_len hp (by omega), trn_at P hp (by omega) (Nat.mod_lt _ pos)]
    have shift : ∀ k, ex h r (i + k * p) = ex h r i := by
      intro k
      induction k with
      | zero => rw [Nat.zero_mul, Nat.add_zero]
      | succ k ih => rw [Nat.succ_mul, ← Nat.add_assoc, T.per P (by omega), ih]
    have hHp : h.length ≤ h.length * p := Nat.le_mul_of_pos_right _ pos
    rw [← shift h.length, ex_rd' (by omega)]
    have e1 : rd r (p - t % p + (i - (h.length - t)) % p) = rd r (p - t % p + (i - (h.length - t))) := by
      rw [← P.mod (p - t % p + (i - (h.length - t)) % p), Nat.add_mod_mod, P.mod]
    rw [e1, ← P.times h.length (p - t % p + (i - (h.length - t))), ← P.times (t / p + 1) (i + h.length * p - h.length)]
    congr 1
    have e2 := Nat.mod_add_div t p
    have e3 : (t / p + 1) * p = p * (t / p) + p := by rw [Nat.succ_mul, Nat.mul_comm]
    omega
/-! ### the law's form -/
/-- windows of the text -/
theorem win_iff {h r : List Nat} {k w : Nat} (hw : r.length ≤ w) (h1 : 0 < r.length) : (∀ x, x < w → ex h r (h.length + x) = ex h r (h.length + k + x)) ↔ ∀ x, rd r (x + k) = rd r x := by
  constructor
  · intro q x
    have hx := Nat.mod_lt x h1
    have := q (x % r.length) (by omega)
    rw [ex_rd, Nat.add_assoc, ex_rd, rd_mod] at this
    rw [this, ← rd_mod (x + k), ← rd_mod (k + x % r.length), Nat.add_mod_mod, Nat.add_comm]
  · intro q x _
    rw [ex_rd, Nat.add_assoc, ex_rd, Nat.add_comm k, q]
/-- the first place from which the text has the period -/
theorem frm_vty {h r : List Nat} {p s : Nat} (P : Per (rd r) p) (hs : s ≤ h.length) (per : ∀ j, s ≤ j → j < h.length + 60 → ex h r (j + p) = ex h r j)
    (first : ∀ k, k < s → ∃ j, k ≤ j ∧ j < h.length + 60 ∧ ex h r (j + p) ≠ ex h r j) : Vty (ex h r) (s + p) := by
  have all : ∀ j, s ≤ j → ex h r (j + p) = ex h r j := by
    intro j hj
    by_cases c : h.length ≤ j
    · rw [ex_rd' c, ex_rd' (by omega), show j + p - h.length = (j - h.length) + p by omega, P.per]
    · exact per j hj (by omega)
  refine vty_of P hs (fun x => ex_rd x) all fun c z => ?_
  obtain ⟨j, j1, _, j3⟩ := first (s - 1) (by omega)
  by_cases d : s ≤ j
  · exact j3 (all j d)
  · have : j = s - 1 := by omega
    subst this
    exact j3 z
theorem frm_all {h r : List Nat} {p s : Nat} (P : Per (rd r) p) (per : ∀ j, s ≤ j → j < h.length + 60 → ex h r (j + p) = ex h r j) : ∀ j, s ≤ j → ex h r (j + p) = ex h r j := by
  intro j hj
  by_cases c : h.length ≤ j
  · rw [ex_rd' c, ex_rd' (by omega), show j + p - h.length = (j - h.length) + p by omega, P.per]
  · exact per j hj (by omega)
/-- the text that is cut out again -/
theorem frm_same {e : Nat → Nat} {p s : Nat} (hp : 0 < p) (per : ∀ j, s ≤ j → e (j + p) = e j) (i : Nat) : ex (wrd e s 0) (wrd e p s) i = e i := by
  have l1 : (wrd e s 0).length = s := by
    unfold wrd
    rw [List.length_map, List.length_range]
  have l2 : (wrd e p s).length = p := by
    unfold wrd
    rw [List.length_map, List.length_range]
  have at' : ∀ {n a j : Nat}, j < n → (wrd e n a).getD j 0 = e (a + j) := by
    intro n a j hj
    unfold wrd
    rw [List.getD_eq_getElem?_getD, List.getElem?_map, List.getElem?_range hj]
    rfl
  by_cases c : i < s
  · rw [ex_head (by omega), at' c, Nat.zero_add]
  · rw [ex_ring (by omega), l1, l2, at' (Nat.mod_lt _ hp)]
    have times : ∀ k x, s ≤ x → e (x + k * p) = e x := by
      intro k
      induction k with
      | zero =>
        intro x _
        rw [Nat.zero_mul, Nat.add_zero]
      | succ k ih =>
        intro x hx
        rw [Nat.succ_mul, ← Nat.add_assoc, per _ (by omega), ih x hx]
    have h1 := times ((i - s) / p) (s + (i - s) % p) (by omega)
    have h2 := Nat.mod_add_div (i - s) p
    rw [← h1, Nat.mul_comm, show s + (i - s) % p + p * ((i - s) / p) = i by omega]
end Ver
namespace Ver
open PySem PySem.Spec PyProof.Rows L2 Evl
/-! ### turned_letters, Round.__init__ -/
theorem atI_back {α : Type} {xs : List α} {k : Nat} {v : α} (hk : k < xs.length) (h : xs[xs.length - 1 - k]? = some v) : atI xs (-1 - (k : Int)) = some v := by
  unfold atI ixN
  rw [if_neg (by omega), if_pos (by omega)]
  show xs[(-1 - (k : Int) + (xs.length : Int)).toNat]? = some v
  rw [show (-1 - (k : Int) + (xs.length : Int)).toNat = xs.length - 1 - k by omega]
  exact h
theorem ev_ixB {σ : L2.St} {H : Hp} {ta tb : TE} {l : List Nat} {k : Nat} (hz : l.length ≤ 100000) (hk : k < l.length) (ha : Ev ta σ H (tx l)) (hb : Ev tb σ H (.int (-1 - (k : Int)))) : Ev (tOp rIxS ta tb) σ H (tx [l.getD (l.length - 1 - k) 0]) :=
  ev_op ha hb (rv_ixS (w := SX.S l) (by rw [SX.S_len]; exact hz) (atI_back (xs := l) hk (take_getD (by omega))))
structure TndL (h r : List Nat) (t : Nat) : Prop where
  le : t ≤ h.length
  eq : ∀ u, u < t → h.getD (h.length - 1 - u) 0 = r.getD (r.length - 1 - u % r.length) 0
  top : t < h.length → h.getD (h.length - 1 - t) 0 ≠ r.getD (r.length - 1 - t % r.length) 0
theorem TndL.tnd {h r : List Nat} {p t : Nat} (T : TndL h (r.take p) t) (P : Per (rd r) p) (hp : p ≤ r.length) : Tnd h r p t := by
  have hl : (r.take p).length = p := by
    rw [List.length_take]
    omega
  have pos := P.pos
  have low : ∀ u, (r.take p).getD ((r.take p).length - 1 - u % (r.take p).length) 0 = rd r (p - 1 - u % p) := by
    intro u
    have hm := Nat.mod_lt u pos
    rw [hl, List.getD_eq_getElem?_getD, List.getElem?_take_of_lt (by omega), take_getD (by omega), rd_low (by omega)]
    rfl
  refine ⟨T.le, fun u hu => ?_, fun c => ?_⟩
  · rw [T.eq u hu, low]
  · have := T.top c
    rw [low] at this
    exact this
def rndFs (al h r : List Nat) (n : Nat) : List (Str × V) := putF "variety" (.int (n : Int)) (putF "ring" (tx r) (putF "head" (tx h) (putF "alphabet" (tx al) [])))
theorem rf_head {al h r : List Nat} {n : Nat} : (rndFs al h r n).lookup ("head" : Str) = some (tx h) := by
  unfold rndFs
  rw [lookup_putF, if_neg (by decide +kernel), lookup_putF, if_neg (by decide +kernel), lookup_putF, if_pos rfl]
theorem rf_ring {al h r : List Nat} {n : Nat} : (rndFs al h r n).lookup ("ring" : Str) = some (tx r) := by
  unfold rndFs
  rw [lookup_putF, if_neg (by decide +kernel), lookup_putF, if_pos rfl]
theorem rf_variety {al h r : List Nat} {n : Nat} : (rndFs al h r n).lookup ("variety" : Str) = some (.int (n : Int)) := by
  unfold rndFs
  rw [lookup_putF, if_pos rfl]
/-- a Round at p: its letters, its variety -/
structure RndAt (C : Addr) (H : Hp) (p : Addr) (e : Nat → Nat) (N : Nat) : Prop where
  ex : ∃ (dx : Addr) (al h r : List Nat), H p = some (.ins C dx (rndFs al h r N)) ∧ h.length + r.length = N ∧ 0 < r.length ∧ (∀ i, ex h r i = e i) ∧ (∀ c ∈ h, c ∈ al) ∧ (∀ c ∈ r, c ∈ al)
  vty : Vty e N
/-- its alphabet -/
def RndAl (C : Addr) (H : Hp) (p : Addr) (al : List Nat) : Prop := ∃ (dx : Addr) (h r : List Nat) (n : Nat), H p = some (.ins C dx (rndFs al h r n))
theorem RndAl.mono {C : Addr} {H H' : Hp} {p : Addr} {al : List Nat} (h : RndAl C H p al) (x : Ex H H') : RndAl C H' p al := by
  obtain ⟨dx, hd, r, n, h1⟩ := h
  exact ⟨dx, hd, r, n, x _ _ h1⟩
theorem RndAt.mono {C : Addr} {H H' : Hp} {p : Addr} {e : Nat → Nat} {N : Nat} (h : RndAt C H p e N) (x : Ex H H') : RndAt C H' p e N := by
  obtain ⟨dx, al, hd, r, h1, h2⟩ := h.ex
  exact ⟨⟨dx, al, hd, r, x _ _ h1, h2⟩, h.vty⟩
section
variable {P : Program} {w : World} {K : PySem.W.Frag} {mg : Str → Option Value} {base : Heap} {C_Round : Addr}
theorem s_fld {te ta : TE} {σ : L2.St} {H : Hp} {D : Ends} {p C dx : Addr} {fs : List (Str × V)} {f : Str} {v : V} (hv : Ev te σ H v) (ho : Ev ta σ H (.ref p)) (hp : H p = some (.ins C dx fs)) (c : Cls K C) (n : NoAttr K C f) (hz : fs.length < 1000)
    (k : ∀ H1, Ex H H1 → D.nx σ (upd H1 p (.ins C dx (putF f v fs)))) : sFld K ta te f D σ H :=
  hv H (Ex.refl H) _ fun H1 e1 => ho H1 e1 _ fun H2 e2 => ⟨p, C, dx, fs, rfl, (e1.trans e2) _ _ hp, c, n, hz, k H2 (e1.trans e2)⟩
def spTur : Sp := fun vs H Q _ => ∃ h r : List Nat, vs = [tx h, tx r] ∧ 0 < r.length ∧ r.length ≤ 1000 ∧ h.length ≤ 1000 ∧ ∀ t : Nat, TndL h r t → RetV (.int (t : Int)) H Q
theorem has_tur (F : At K mg "turned_letters" s_turned_letters) (T : Top K mg C_Round) : Has P w K mg base "turned_letters" s_turned_letters ["head", "ring"] 1 spTur := by
  obtain ⟨f, fd, F, m⟩ := F.ex
  refine ⟨f, fd, F, F.ok S_turned_letters (fun vs H Q E h => ?_) (fun cdv A outer s H vs Q E hr h => ?_), F.binds fun _ _ _ _ _ _ us hl => match us, hl with | [_, _], _ => rfl, m, F.kp⟩
  · obtain ⟨h, r, rfl, _⟩ := h
    rfl
  obtain ⟨h, r, rfl, hp, hz, hz2, q⟩ := h
  refine ⟨_, (pss_cons
    (ps_set (i := 2) S_turned_letters.nd rfl (Or.inl rfl) pe_int)
    (pss_cons
    (ps_while PassesOwn.never (PW.pt (pw_and (pt_cmpR op_lt (pv 2) (pe_callB call_len_str rfl T.z_len PySem.boot_len (pa_cons (pv 0) pa_nil)) (nomark _)) (pw_and1 (pt_cmpR op_eq (pe_ix ix_str (pv 0) (pe_op op_sub (pe_un un_neg pe_int) (pv 2)) (fun _ _ => rfl)) (pe_ix ix_str (pv 1) (pe_op op_sub (pe_un un_neg pe_int) (pe_op op_mod (pv 2) (pe_callB call_len_str rfl T.z_len PySem.boot_len (pa_cons (pv 1) pa_nil)))) (fun _ _ => rfl)) (nomark _))))) (pss_one
    (ps_aug (i := 2) S_turned_letters.nd rfl (Or.inl rfl) pe_int ip_add)))
    (pss_one
    (ps_ret (pv 2))))), ?_⟩
  refine q_asg (v := .int ((0 : Nat) : Int)) ev_c fun H1 e1 => ?_
  refine q_while (fun n σ' H' => ∃ t : Nat, σ' = [some (tx h), some (tx r), some (.int (t : Int))] ∧ Ex H H' ∧ t ≤ h.length ∧ (∀ u, u < t → h.getD (h.length - 1 - u) 0 = r.getD (r.length - 1 - u % r.length) 0) ∧ n = h.length - t) h.length
    ⟨0, rfl, e1, Nat.zero_le _, fun u hu => absurd hu (Nat.not_lt_zero _), rfl⟩ ?_
  intro n σ' H' p
  obtain ⟨t, rfl, e2, ht, hq, rfl⟩ := p
  have hm := Nat.mod_lt t hp
  refine ⟨_, et_and (et_lt (ev_var rfl) (ev_lenS (l := h) (by omega) (ev_var rfl))) (fun hb => et_eqS (a := [h.getD (h.length - 1 - t) 0]) (b := [r.getD (r.length - 1 - t % r.length) 0]) (ev_ixB (by omega) (by have := of_decide_eq_true hb; omega) (ev_var rfl) (ev_sub (ev_un ev_c ru_neg) (ev_var rfl)))
    (ev_ixB (k := t % r.length) (by omega) hm (ev_var rfl) (ev_sub (ev_un ev_c ru_neg) (ev_is (ev_mod (j := (r.length : Int)) (by omega) (ev_var rfl) (ev_lenS (l := r) (by omega) (ev_var rfl))) (by rw [Int.natCast_emod]))))), fun hb H3 e3 => ?_, fun hb H3 e3 => ?_⟩
  · rw [Bool.and_eq_true] at hb
    have h1 := of_decide_eq_true hb.1
    have h2 := of_decide_eq_true hb.2
    refine ⟨fun σ2 H4 => ∃ t2 : Nat, σ2 = [some (tx h), some (tx r), some (.int (t2 : Int))] ∧ Ex H H4 ∧ t2 ≤ h.length ∧ (∀ u, u < t2 → h.getD (h.length - 1 - u) 0 = r.getD (r.length - 1 - u % r.length) 0) ∧ h.length - t2 < h.length - t,
      fun σ2 H4 ⟨t2, k1, k2, k3, k4, k5⟩ => ⟨h.length - t2, k5, t2, k1, k2, k3, k4, rfl⟩, ?_⟩
    refine s_aug (f := fun a b => a + b) (a := (t : Int)) rfl ev_c fun H4 e4 => ⟨t + 1, rfl, (e2.trans e3).trans e4, by omega, fun u hu => ?_, by omega⟩
    by_cases c : u < t
    · exact hq u c
    · have : u = t := by omega
      subst this
      exact (List.cons.inj h2).1
  · refine s_ret (ev_var rfl) fun H4 e4 => q t ⟨ht, hq, fun c => ?_⟩ H4 ((e2.trans e3).trans e4)
    rw [Bool.and_eq_false_iff] at hb
    rcases hb with hb | hb
    · have := of_decide_eq_false hb
      omega
    · have := of_decide_eq_false hb
      exact fun z => this (by rw [z])
/-! Round.__init__ -/
def spRnd (C : Addr) : Sp := fun vs H Q _ => ∃ (al h r : List Nat) (p dx : Addr) (H0 : Hp), vs = [.ref p, tx al, tx h, tx r] ∧ Ex H0 H ∧ H0 p = none ∧ H p = some (.ins C dx []) ∧ Alf al ∧ (∀ c ∈ h, c ∈ al) ∧ (∀ c ∈ r, c ∈ al) ∧ 0 < r.length ∧ r.length ≤ 1000 ∧ h.length ≤ 1000 ∧
  ∀ H2 N, Ex H0 H2 → N ≤ h.length + r.length → RndAt C H2 p (ex h r) N → RndAl C H2 p al → Q .non H2
theorem rnd_ok {f : Addr} {fd : FuncData} (F : Fun K "__init__" "Round.__init__" s_Round___init__ f fd) (T : Top K mg C_Round) (h1 : Has P w K mg base "check_alphabet" s_check_alphabet ["alphabet"] 2 spCkAl) (h2 : Has P w K mg base "check_text" s_check_text ["alphabet", "text"] 1 spCkTx)
    (h3 : Has P w K mg base "turned_letters" s_turned_letters ["head", "ring"] 1 spTur) : FnOk P w K mg base CX0 3 f fd ["self", "alphabet", "head", "ring"] (spRnd C_Round) := by
  obtain ⟨f1, fd1, _, G_check_alphabet, b_check_alphabet, m_check_alphabet, k_check_alphabet⟩ := h1
  obtain ⟨f2, fd2, _, G_check_text, b_check_text, m_check_text, k_check_text⟩ := h2
  obtain ⟨f3, fd3, _, G_turned_letters, b_turned_letters, m_turned_letters, k_turned_letters⟩ := h3
  refine F.ok S_Round___init__ (fun vs H Q E h => ?_) (fun cdv A outer s H vs Q E hr h => ?_)
  · obtain ⟨al, h, r, p, dx, H0, rfl, _⟩ := h
    rfl
  obtain ⟨al, h, r, p, dx, H0, rfl, e0, hp0, hp, hA, hh, hr2, r1, r2, h2', q⟩ := h
  refine ⟨_, (pss_cons
    (ps_expr (pe_call G_check_alphabet (hr.mono (by decide)) rfl m_check_alphabet k_check_alphabet b_check_alphabet .nil pass0 (pa_cons (pv 1) pa_nil)))
    (pss_cons
    (ps_expr (pe_call G_check_text (hr.mono (by decide)) rfl m_check_text k_check_text b_check_text .nil pass0 (pa_cons (pv 1) (pa_cons (pv 2) pa_nil))))
    (pss_cons
    (ps_expr (pe_call G_check_text (hr.mono (by decide)) rfl m_check_text k_check_text b_check_text .nil pass0 (pa_cons (pv 1) (pa_cons (pv 3) pa_nil))))
    (pss_cons
    (ps_if (pt_cmpR op_eq (pv 3) pe_str (nomark _)) (pss_one
    ps_never) pss_nil)
    (pss_cons
    (ps_set (i := 4) S_Round___init__.nd rfl (Or.inl rfl) (pe_slice sl_str (pv 3) po_none (po_some (pe_bm PySem.F.plainAttrs_str PySem.F.slot_str_find PySem.F.type_str_find mt_find3 (pe_op op_add_str (pv 3) (pv 3)) (pa_cons (pv 3) (pa_cons pe_int pa_nil))))))
    (pss_cons
    (ps_set (i := 5) S_Round___init__.nd rfl (Or.inl rfl) (pe_call G_turned_letters (hr.mono (by decide)) rfl m_turned_letters k_turned_letters b_turned_letters .nil pass0 (pa_cons (pv 2) (pa_cons (pv 4) pa_nil))))
    (pss_cons
    (ps_set (i := 6) S_Round___init__.nd rfl (Or.inl rfl) (pe_op op_sub (pe_callB call_len_str rfl T.z_len PySem.boot_len (pa_cons (pv 4) pa_nil)) (pe_op op_mod (pv 5) (pe_callB call_len_str rfl T.z_len PySem.boot_len (pa_cons (pv 4) pa_nil)))))
    (pss_cons
    (ps_fld (pv 0) (pv 1) rfl)
    (pss_cons
    (ps_fld (pv 0) (pe_slice sl_str (pv 2) po_none (po_some (pe_op op_sub (pe_callB call_len_str rfl T.z_len PySem.boot_len (pa_cons (pv 2) pa_nil)) (pv 5)))) rfl)
    (pss_cons
    (ps_fld (pv 0) (pe_op op_add_str (pe_slice sl_str (pv 4) (po_some (pv 6)) po_none) (pe_slice sl_str (pv 4) po_none (po_some (pv 6)))) rfl)
    (pss_one
    (ps_fld (pv 0) (pe_op op_add (pe_callB call_len_str rfl T.z_len PySem.boot_len (pa_cons (pe_fld (pv 0) rfl) pa_nil)) (pe_callB call_len_str rfl T.z_len PySem.boot_len (pa_cons (pe_fld (pv 0) rfl) pa_nil))) rfl)))))))))))), ?_⟩
  refine q_drop (ev_call (ea_cons (ev_var rfl) ea_nil) (sv_ckal hA)) fun H1 e1 => ?_
  refine q_drop (ev_call (ea_cons (ev_var rfl) (ea_cons (ev_var rfl) ea_nil)) (sv_cktx hh (by omega))) fun H2 e2 => ?_
  refine q_drop (ev_call (ea_cons (ev_var rfl) (ea_cons (ev_var rfl) ea_nil)) (sv_cktx hr2 (by omega))) fun H3 e3 => ?_
  refine q_skip (et_is (et_test (ev_op (ev_var rfl) ev_c (rv_eq rfl))) (by
    rw [nil_is]
    refine decide_eq_false fun z => ?_
    have := SX.S_inj (V.str.inj z)
    rw [this] at r1
    exact absurd r1 (Nat.lt_irrefl 0))) fun H4 e4 => ?_
  obtain ⟨pp, fp, hpp, Pr⟩ := find_ring r1
  have e04 := ((e1.trans e2).trans e3).trans e4
  refine q_asg (v := tx (r.take pp)) (ev_is (ev_slS (by omega) (ev_var rfl) eo_none (eo_some (i := (pp : Int)) (ev_bm (ev_catS (a := r) (b := r) (by omega) (ev_var rfl) (ev_var rfl)) (fun _ _ => rfl) (ea_cons (ev_var rfl) (ea_cons ev_c ea_nil)) fun H5 e5 Q' q' => ⟨SX.S (r ++ r), SX.S r, 1, rfl, rfl, by rw [fp]; exact q' H5 (Ex.refl H5)⟩))) (by rw [cutL_to])) fun H5 e5 => ?_
  have hl : (r.take pp).length = pp := by
    rw [List.length_take]
    omega
  have pos := Pr.pos
  have e05 := e04.trans e5
  refine q_callD (vs := [tx h, tx (r.take pp)]) (dvs := []) (ea_cons (ev_var rfl) (ea_cons (ev_var rfl) ea_nil)) fun H6 e6 => ⟨h, r.take pp, rfl, by omega, by omega, h2', fun t Tl H7 e7 => ?_⟩
  have Tn := Tl.tnd Pr hpp
  have hm := Nat.mod_lt t pos
  have le := Tn.le
  have e07 := (e05.trans e6).trans e7
  refine q_asg (v := .int ((pp - t % pp : Nat) : Int)) (ev_is (ev_sub (ev_lenS (l := r.take pp) (by omega) (ev_var rfl)) (ev_mod (j := (pp : Int)) (by omega) (ev_var rfl) (ev_is (ev_lenS (l := r.take pp) (by omega) (ev_var rfl)) (by rw [hl])))) (by rw [hl, ← Int.natCast_emod]; congr 1; omega)) fun H8 e8 => ?_
  have e08 := e07.trans e8
  have cl := T.cl_Round
  have g8 : Ex H0 H8 := e0.trans e08
  have i8 := e08 _ _ hp
  refine q_fld (ev_var rfl) (ev_var rfl) i8 cl T.n_Round_alphabet (by show 0 < 1000; decide) fun H9 e9 => ?_
  have g9 : Ex H0 (L2.upd H9 p (.ins C_Round dx (putF "alphabet" (tx al) []))) := (g8.trans e9).mut hp0
  have i9 : (L2.upd H9 p (.ins C_Round dx (putF "alphabet" (tx al) []))) p = _ := upd_same
  generalize L2.upd H9 p (.ins C_Round dx (putF "alphabet" (tx al) [])) = G9 at g9 i9 ⊢
  refine q_fld (v := tx (h.take (h.length - t))) (ev_is (ev_slS (by omega) (ev_var rfl) eo_none (eo_some (i := ((h.length - t : Nat) : Int)) (ev_is (ev_sub (ev_lenS (l := h) (by omega) (ev_var rfl)) (ev_var rfl)) (by congr 1; omega)))) (by rw [cutL_to])) (ev_var rfl) i9 cl T.n_Round_head (by show 1 < 1000; decide) fun H10 e10 => ?_
  have g10 : Ex H0 (L2.upd H10 p (.ins C_Round dx (putF "head" (tx (h.take (h.length - t))) (putF "alphabet" (tx al) [])))) := (g9.trans e10).mut hp0
  have i10 : (L2.upd H10 p (.ins C_Round dx (putF "head" (tx (h.take (h.length - t))) (putF "alphabet" (tx al) [])))) p = _ := upd_same
  generalize L2.upd H10 p (.ins C_Round dx (putF "head" (tx (h.take (h.length - t))) (putF "alphabet" (tx al) []))) = G10 at g10 i10 ⊢
  refine q_fld (v := tx (trn r pp (pp - t % pp))) (ev_catS (a := (r.take pp).drop (pp - t % pp)) (b := (r.take pp).take (pp - t % pp)) (by simp only [List.length_drop, List.length_take]; omega) (ev_is (ev_slS (by omega) (ev_var rfl) (eo_some (i := ((pp - t % pp : Nat) : Int)) (ev_var rfl)) eo_none) (by rw [cutL_from]))
    (ev_is (ev_slS (by omega) (ev_var rfl) eo_none (eo_some (i := ((pp - t % pp : Nat) : Int)) (ev_var rfl))) (by rw [cutL_to]))) (ev_var rfl) i10 cl T.n_Round_ring (by show 2 < 1000; decide) fun H11 e11 => ?_
  have g11 : Ex H0 (L2.upd H11 p (.ins C_Round dx (putF "ring" (tx (trn r pp (pp - t % pp))) (putF "head" (tx (h.take (h.length - t))) (putF "alphabet" (tx al) []))))) := (g10.trans e11).mut hp0
  have i11 : (L2.upd H11 p (.ins C_Round dx (putF "ring" (tx (trn r pp (pp - t % pp))) (putF "head" (tx (h.take (h.length - t))) (putF "alphabet" (tx al) []))))) p = _ := upd_same
  generalize L2.upd H11 p (.ins C_Round dx (putF "ring" (tx (trn r pp (pp - t % pp))) (putF "head" (tx (h.take (h.length - t))) (putF "alphabet" (tx al) [])))) = G11 at g11 i11 ⊢
  have lt := trn_len (r := r) hpp (show pp - t % pp ≤ pp by omega)
  have lh : (h.take (h.length - t)).length = h.length - t := by
    rw [List.length_take]
    omega
  refine s_fld (v := .int ((h.length - t + pp : Nat) : Int)) (ev_is (ev_add (ev_lenS (by omega) (ev_fld (v := tx (h.take (h.length - t))) (ev_var rfl) i11 cl T.n_Round_head (by rw [lookup_putF, if_neg (by decide +kernel), lookup_putF, if_pos rfl]))) (ev_lenS (by omega) (ev_fld (v := tx (trn r pp (pp - t % pp))) (ev_var rfl) i11 cl T.n_Round_ring (by rw [lookup_putF, if_pos rfl])))) (by rw [lh, lt, ← Int.natCast_add])) (ev_var rfl) i11 cl T.n_Round_variety (by show 3 < 1000; decide) fun H12 e12 => ?_
  refine q _ (h.length - t + pp) ((g11.trans e12).mut hp0) (by omega) ⟨⟨dx, al, _, _, upd_same, by rw [lh, lt], by omega, fun i => Tn.same Pr hpp i, fun c hc => hh c (List.mem_of_mem_take hc), fun c hc => ?_⟩, Tn.vty Pr⟩ ⟨dx, _, _, _, upd_same⟩
  unfold trn at hc
  rcases List.mem_append.mp hc with hc | hc
  · exact hr2 c (List.mem_of_mem_take (List.mem_of_mem_drop hc))
  · exact hr2 c (List.mem_of_mem_take (List.mem_of_mem_take hc))
theorem has_rnd (F : AtI K C_Round "Round.__init__" s_Round___init__) (T : Top K mg C_Round) (h1 : Has P w K mg base "check_alphabet" s_check_alphabet ["alphabet"] 2 spCkAl) (h2 : Has P w K mg base "check_text" s_check_text ["alphabet", "text"] 1 spCkTx)
    (h3 : Has P w K mg base "turned_letters" s_turned_letters ["head", "ring"] 1 spTur) : HasI P w K mg base C_Round ["self", "alphabet", "head", "ring"] 3 (spRnd C_Round) := by
  obtain ⟨f, fd, F, M⟩ := F.ex
  exact ⟨f, fd, rnd_ok F T h1 h2 h3, F.binds fun _ _ _ _ _ _ us hl => match us, hl with | [_, _, _, _], _ => rfl, M⟩
end
end Ver
namespace Ver
open PySem PySem.Spec PyProof.Rows L2 Evl
/-! ### the number of a class, in order of appearance -/
theorem ex_least {P : Nat → Prop} (h : ∃ n, P n) : ∃ n, P n ∧ ∀ m, m < n → ¬ P m := by
  refine Classical.byContradiction fun hc => ?_
  have no : ∀ n m, m ≤ n → ¬ P m := by
    intro n
    induction n with
    | zero =>
      intro m hm p
      exact hc ⟨m, p, fun k hk => absurd hk (by omega)⟩
    | succ n ih =>
      intro m hm p
      exact hc ⟨m, p, fun k hk => ih k (by omega)⟩
  obtain ⟨n, p⟩ := h
  exact no n n (Nat.le_refl n) p
section
variable {κ : Type} [DecidableEq κ]
noncomputable def lf (f : Nat → κ) (i : Nat) : Nat := Classical.choose (ex_least (P := fun b => f b = f i) ⟨i, rfl⟩)
theorem lf_eq (f : Nat → κ) (i : Nat) : f (lf f i) = f i := (Classical.choose_spec (ex_least (P := fun b => f b = f i) ⟨i, rfl⟩)).1
theorem lf_min {f : Nat → κ} {i b : Nat} (h : f b = f i) : lf f i ≤ b := Nat.le_of_not_lt fun c => (Classical.choose_spec (ex_least (P := fun b => f b = f i) ⟨i, rfl⟩)).2 b c h
theorem lf_le (f : Nat → κ) (i : Nat) : lf f i ≤ i := lf_min rfl
noncomputable def nmb (f : Nat → κ) (i : Nat) : Nat := dif f (lf f i)
theorem dif_step (f : Nat → κ) (n : Nat) : dif f n ≤ dif f (n + 1) := by
  show dif f n ≤ dif f n + _
  omega
theorem dif_up (f : Nat → κ) {n m : Nat} (h : n ≤ m) : dif f n ≤ dif f m := by
  induction h with
  | refl => exact Nat.le_refl _
  | step _ ih => exact Nat.le_trans ih (dif_step f _)
theorem dif_new {f : Nat → κ} {n : Nat} (h : ∀ b, b < n → f b ≠ f n) : dif f (n + 1) = dif f n + 1 := by
  show dif f n + (if ∃ b, b < n ∧ f b = f n then 0 else 1) = _
  rw [if_neg]
  rintro ⟨b, hb, e⟩
  exact h b hb e
theorem dif_old {f : Nat → κ} {n : Nat} (h : ∃ b, b < n ∧ f b = f n) : dif f (n + 1) = dif f n := by
  show dif f n + (if ∃ b, b < n ∧ f b = f n then 0 else 1) = _
  rw [if_pos h, Nat.add_zero]
theorem lf_new (f : Nat → κ) (i : Nat) : ∀ b, b < lf f i → f b ≠ f (lf f i) := fun b hb e => by
  have e2 := e.trans (lf_eq f i)
  have := lf_min e2
  omega
theorem nmb_iff {f : Nat → κ} {a b : Nat} : nmb f a = nmb f b ↔ f a = f b := by
  constructor
  · intro h
    have go : ∀ {a b : Nat}, nmb f a = nmb f b → ¬ lf f a < lf f b := by
      intro a b h c
      have h1 := dif_new (lf_new f a)
      have h2 := dif_up f (show lf f a + 1 ≤ lf f b by omega)
      unfold nmb at h
      omega
    have h1 := go h
    have h2 := go h.symm
    rw [← lf_eq f a, ← lf_eq f b, show lf f a = lf f b by omega]
  · intro h
    have h1 := lf_min (f := f) (i := a) (b := lf f b) ((lf_eq f b).trans h.symm)
    have h2 := lf_min (f := f) (i := b) (b := lf f a) ((lf_eq f a).trans h)
    unfold nmb
    rw [show lf f a = lf f b by omega]
theorem nmb_new {f : Nat → κ} {i : Nat} (h : ∀ b, b < i → f b ≠ f i) : nmb f i = dif f i := by
  have h1 := lf_le f i
  have h2 : ¬ lf f i < i := fun c => h _ c (lf_eq f i)
  unfold nmb
  rw [show lf f i = i by omega]
theorem nmb_lt {f : Nat → κ} {a n : Nat} (h : a < n) : nmb f a < dif f n := by
  have h1 := dif_new (lf_new f a)
  have h2 := lf_le f a
  have h3 := dif_up f (show lf f a + 1 ≤ n by omega)
  unfold nmb
  omega
theorem nmb_top {f : Nat → κ} : ∀ n, 0 < n → ∃ a, a < n ∧ nmb f a + 1 = dif f n
  | 0, h => absurd h (Nat.lt_irrefl 0)
  | n + 1, _ => by
    by_cases c : ∃ b, b < n ∧ f b = f n
    · obtain ⟨b, hb, e⟩ := c
      obtain ⟨a, ha, q⟩ := nmb_top (f := f) n (by omega)
      exact ⟨a, by omega, by rw [dif_old ⟨b, hb, e⟩]; exact q⟩
    · have hn : ∀ b, b < n → f b ≠ f n := fun b hb e => c ⟨b, hb, e⟩
      exact ⟨n, by omega, by rw [nmb_new hn, dif_new hn]⟩
end
/-! ### the dict of classes -/
def kc (p : Nat × Nat) : List Key := [Sum.inr (SX.S [p.1]), Sum.inl (p.2 : Int)]
def kp (p : Nat × Nat) : List V := [tx [p.1], .int (p.2 : Int)]
theorem kc_kp (p : Nat × Nat) : (kc p).map kV = kp p := rfl
theorem kc_inj {p q : Nat × Nat} (h : kc p = kc q) : p = q := by
  obtain ⟨a, b⟩ := p
  obtain ⟨c, d⟩ := q
  have h1 := (List.cons.inj h).1
  have h2 := (List.cons.inj (List.cons.inj h).2).1
  have e1 := SX.S_inj (Sum.inr.inj h1)
  have e2 : (b : Int) = (d : Int) := Sum.inl.inj h2
  have e3 : a = c := (List.cons.inj e1).1
  have e4 : b = d := by omega
  rw [e3, e4]
structure DcAt (kvs : List (List Key × V)) (f : Nat → Nat × Nat) (i : Nat) : Prop where
  len : kvs.length = dif f i
  there : ∀ b, b < i → valV kvs (kc (f b)) = some (.int (nmb f b : Int))
  not : ∀ k, (∀ b, b < i → f b ≠ k) → valV kvs (kc k) = none
theorem DcAt.nil {f : Nat → Nat × Nat} : DcAt [] f 0 := ⟨rfl, fun b h => absurd h (Nat.not_lt_zero _), fun _ _ => rfl⟩
theorem DcAt.old {kvs : List (List Key × V)} {f : Nat → Nat × Nat} {i : Nat} (h : DcAt kvs f i) (c : ∃ b, b < i ∧ f b = f i) : DcAt kvs f (i + 1) ∧ valV kvs (kc (f i)) = some (.int (nmb f i : Int)) := by
  obtain ⟨b, hb, e⟩ := c
  have hv : valV kvs (kc (f i)) = some (.int (nmb f i : Int)) := by
    rw [← e, h.there b hb, nmb_iff.mpr e]
  refine ⟨⟨by rw [dif_old ⟨b, hb, e⟩, h.len], fun a ha => ?_, fun k hk => h.not k fun a ha => hk a (by omega)⟩, hv⟩
  by_cases d : a < i
  · exact h.there a d
  · rw [show a = i by omega]
    exact hv
theorem DcAt.put {kvs : List (List Key × V)} {f : Nat → Nat × Nat} {i : Nat} (h : DcAt kvs f i) (c : ∀ b, b < i → f b ≠ f i) (hn : valV kvs (kc (f i)) = none) : DcAt (putK kvs (kc (f i)) (.int (dif f i : Int))) f (i + 1) := by
  refine ⟨?_, fun a ha => ?_, fun k hk => ?_⟩
  · rw [putK_new _ hn, List.length_append, h.len, dif_new c]
    rfl
  · rw [valV_put]
    by_cases d : a < i
    · rw [if_neg fun e => c a d (kc_inj e), h.there a d]
    · rw [show a = i by omega, if_pos rfl, nmb_new c]
  · rw [valV_put, if_neg fun e => hk i (by omega) (kc_inj e).symm]
    exact h.not k fun a ha => hk a (by omega)
end Ver
namespace Ver
open PySem PySem.Spec PyProof.Rows L2 Evl
theorem ty_dT {K : PySem.W.Frag} {d : Addr} {H : Hp} {kvs : List (List Key × V)} (h : H d = some (.dT kvs)) : tyV K "dict" (.ref d) H := .inr (.inr (.inl ⟨rfl, .inr ⟨kvs, h⟩⟩))
theorem dec_tp {xs : List V} {ps : List (List V)} {H : Hp} {i : Nat} {x : V} {p : List V} (h : TpAt H xs ps) (hx : xs[i]? = some x) (hp : ps[i]? = some p) : ∃ r, x = .ref r ∧ H r = some (.tup p) := by
  obtain ⟨r, a, b⟩ := h.row i p hp
  rw [a] at hx
  exact ⟨r, (Option.some.inj hx).symm, b⟩
section
variable {P : Program} {w : World} {K : PySem.W.Frag} {mg : Str → Option Value} {base : Heap} {C_Round : Addr}
theorem s_setd {σ : L2.St} {H : Hp} {D : Ends} {ta tb tc : TE} {d r : Addr} {kvs : List (List Key × V)} {k : List Key} (ha : Ev ta σ H (.ref d)) (hb : Ev tb σ H (.ref r)) (hc : Ev tc σ H (.ref d)) (hd : H d = some (.dT kvs)) (hr : H r = some (.tup (k.map kV))) (hz : kvs.length < 100000)
    (k1 : ∀ H1 v, Ex H H1 → valV kvs k = some v → D.nx σ H1) (k2 : ∀ H1, Ex H H1 → valV kvs k = none → D.nx σ (upd H1 d (.dT (putK kvs k (.int (kvs.length : Int)))))) : tDrop (tBM K "dict" rSetT ta (tCons tb (tCons (tCB rLenT (tCons tc tNil)) tNil))) D σ H :=
  ha H (Ex.refl H) _ fun H1 e1 => ⟨ty_dT (e1 _ _ hd), hb H1 e1 _ fun H2 e2 => hc H2 (e1.trans e2) _ fun H3 e3 =>
    have e13 := (e1.trans e2).trans e3
    ⟨d, kvs, rfl, e13 _ _ hd, d, kvs, k, r, _, rfl, rfl, e13 _ _ hd, e13 _ _ hr, sz_lt hz, fun v hv => k1 H3 v e13 hv, fun hv => k2 H3 e13 hv⟩⟩
theorem run_c1R {σ : L2.St} {H : Hp} {sp : Sp} {dvs : List V} {E : XK} {tl : TE} {Q : VK} (h : tl σ H fun x H1 => sp ([x] ++ dvs) H1 Q E) : tCall sp dvs E (tCons tl tNil) σ H Q := h
end
end Ver
namespace Ver
open PySem PySem.Spec PyProof.Rows L2 Evl
section
variable {P : Program} {w : World} {K : PySem.W.Frag} {mg : Str → Option Value} {base : Heap} {C_Round : Addr}
theorem has_lwhole (F : At K mg "_law_whole" s__law_whole) (T : Top K mg C_Round) : Has P w K mg base "_law_whole" s__law_whole ["value"] 1 spWhole := by
  obtain ⟨f, fd, F, m⟩ := F.ex
  refine ⟨f, fd, F, F.ok S__law_whole (fun vs H Q E h => ?_) (fun cdv A outer s H vs Q E hr h => ?_), F.binds fun _ _ _ _ _ _ us hl => match us, hl with | [_], _ => rfl, m, F.kp⟩
  · obtain ⟨n, rfl, _⟩ := h
    rfl
  obtain ⟨n, rfl, q⟩ := h
  refine ⟨_, (pss_one
    (ps_ret (pe_and (pe_callB call_isi rfl T.z_isinstance (by decide +kernel) (pa_cons (pv 0) (pa_cons (pe_bltn (v := .ty "int") rfl T.z_int (by decide +kernel) rfl) pa_nil))) (pe_one (pe_not (pe_callB call_isi rfl T.z_isinstance (by decide +kernel) (pa_cons (pv 0) (pa_cons (pe_bltn (v := .ty "bool") rfl T.z_bool (by decide +kernel) rfl) pa_nil)))))))), ?_⟩
  exact s_ret (ev_is (ev_andV (ev_cb (ea_cons (ev_var rfl) (ea_cons ev_c ea_nil)) (rc_isi (b := true) (by decide +kernel)))
    (fun _ => ev_notV (ev_cb (ea_cons (ev_var rfl) (ea_cons ev_c ea_nil)) (rc_isi (b := false) (by decide +kernel))))) rfl) q
end
end Ver
namespace Ver
open PySem PySem.Spec PyProof.Rows L2 Evl
section
variable {P : Program} {w : World} {K : PySem.W.Frag} {mg : Str → Option Value} {base : Heap} {C_Round : Addr}
theorem has_digits (F : At K mg "_law_digits" s__law_digits) (T : Top K mg C_Round) : Has P w K mg base "_law_digits" s__law_digits ["cell", "sizes"] 1 (spDigits K) := by
  obtain ⟨f, fd, F, m⟩ := F.ex
  refine ⟨f, fd, F, F.ok S__law_digits (fun vs H Q E h => ?_) (fun cdv A outer s H vs Q E hr h => ?_), F.binds fun _ _ _ _ _ _ us hl => match us, hl with | [_, _], _ => rfl, m, F.kp⟩
  · obtain ⟨c, a, ss, rfl, _⟩ := h
    rfl
  obtain ⟨c, a, ss, rfl, hS, hz, hss, q⟩ := h
  refine ⟨_, (pss_cons
    (ps_set (i := 2) S__law_digits.nd rfl (Or.inl rfl) (pe_lst pa_nil))
    (pss_cons
    (ps_set (i := 3) S__law_digits.nd rfl (Or.inl rfl) (pe_callTy call_int1 rfl T.z_int (by decide +kernel) (pa_cons (pv 0) pa_nil)))
    (pss_cons
    (ps_if (pt_cmpR op_ge (pv 3) (pe_op op_pow pe_int pe_int) (nomark _)) (pss_cons
    (ps_set (i := 3) S__law_digits.nd rfl (Or.inl rfl) (pe_op op_sub (pv 3) (pe_op op_pow pe_int pe_int)))
    (pss_cons
    (ps_for PassesOwn.never rfl (pi_list (pv 1)) (pg_name (i := 4) S__law_digits.nd rfl (Or.inl rfl)) (pss_cons
    (ps_expr (pe_bm PySem.F.plainAttrs_list PySem.F.slot_list_append PySem.F.type_list_append mt_append (pv 2) (pa_cons (pe_op op_mod (pe_callTy call_int1 rfl T.z_int (by decide +kernel) (pa_cons (pv 3) pa_nil)) (pv 4)) pa_nil)))
    (pss_one
    (ps_set (i := 3) S__law_digits.nd rfl (Or.inl rfl) (pe_op op_fdivW (pe_callTy call_int1 rfl T.z_int (by decide +kernel) (pa_cons (pv 3) pa_nil)) (pv 4))))))
    (pss_one
    (ps_ret (pv 2))))) pss_nil)
    (pss_cons
    (ps_set (i := 5) S__law_digits.nd rfl (Or.inl rfl) (pe_op op_mod (pe_callTy call_int1 rfl T.z_int (by decide +kernel) (pa_cons (pv 3) pa_nil)) pe_int))
    (pss_cons
    (ps_for PassesOwn.never rfl (pi_range1 rfl T.z_range (pa_cons (pe_callB call_len_seq rfl T.z_len PySem.boot_len (pa_cons (pv 1) pa_nil)) pa_nil)) (pg_name (i := 6) S__law_digits.nd rfl (Or.inl rfl)) (pss_cons
    (ps_set (i := 5) S__law_digits.nd rfl (Or.inl rfl) (pe_op op_mod (pe_callTy call_int1 rfl T.z_int (by decide +kernel) (pa_cons (pe_op op_add (pe_op op_add (pe_op op_mul (pv 5) pe_int) (pe_op op_mul pe_int (pv 6))) pe_int) pa_nil)) pe_int))
    (pss_cons
    (ps_set (i := 7) S__law_digits.nd rfl (Or.inl rfl) (pe_op op_mod (pe_callTy call_int1 rfl T.z_int (by decide +kernel) (pa_cons (pe_op op_mul (pv 5) (pe_op op_add (pe_op op_fdivW (pv 5) pe_int) pe_int)) pa_nil)) pe_int))
    (pss_one
    (ps_expr (pe_bm PySem.F.plainAttrs_list PySem.F.slot_list_append PySem.F.type_list_append mt_append (pv 2) (pa_cons (pe_op op_mod (pe_op op_fdivW (pv 7) pe_int) (pe_ix (r := rIxL K) ix_list (pv 1) (pv 6) (fun _ _ => rfl))) pa_nil)))))))
    (pss_one
    (ps_ret (pv 2)))))))), ?_⟩
  have hl : (((ss.map V.int).length : Nat) : Int) = (ss.length : Int) := by rw [List.length_map]
  have e18 : (10 : Int) ^ (18 : Int).toNat = 10 ^ 18 := rfl
  refine q_asgL (el_lst ea_nil (by decide)) fun p H1 hp e1 h1 => ?_
  refine q_asg (ev_int (ev_var rfl)) fun H2 e2 => ?_
  have hP : CPow 10 18 := ⟨by decide, by decide, by decide⟩
  refine q_when (et_is (et_ge (ev_var rfl) (ev_op ev_c ev_c (rv_I hP))) rfl) (fun hb H3 e3 => ?_) (fun hb H3 e3 => ?_)
  · have hc : 10 ^ 18 ≤ c := of_decide_eq_true hb
    refine q_asg (ev_sub (ev_var rfl) (ev_op ev_c ev_c (rv_I hP))) fun H4 e4 => ?_
    have e14 : Ex H H4 := ((e1.trans e2).trans e3).trans e4
    refine q_forLn (ev_var rfl) (ex_l e14 hS) (fun i σ' H' => (∃ u, σ' = [some (.int c), some (.ref a), some (.ref p), some (.int (restF c ss i)), u, none, none, none]) ∧ Ex H H' ∧ H' p = some (.lst (((List.range i).map (digA c ss)).map V.int))) ?_ ?_ ?_ ?_
    · intro H5 e5
      exact ⟨⟨none, rfl⟩, e14.trans e5, e5 _ _ (e4 _ _ (e3 _ _ (e2 _ _ h1)))⟩
    · intro i σ' H' _ z
      exact ex_l z.2.1 hS
    · intro i x σ' H' hx z
      obtain ⟨⟨u, rfl⟩, e5, h5⟩ := z
      obtain ⟨hi, rfl⟩ := at0_get hx
      obtain ⟨s1, s2⟩ := hss i hi
      refine q_app h5 (ev_var rfl) (ev_mod s1 (ev_int (ev_var rfl)) (ev_var rfl)) (by rw [List.length_map, List.length_map, List.length_range]; omega) fun H6 e6 => ?_
      refine s_asg (ev_div s1 s2 (ev_int (ev_var rfl)) (ev_var rfl)) fun H7 e7 => ⟨⟨some (.int (at0 ss i)), rfl⟩, ((e5.trans e6).mut hp).trans e7, ?_⟩
      rw [map_range_succ]
      exact e7 _ _ upd_same
    · intro σ' H' z
      obtain ⟨⟨u, rfl⟩, e5, h5⟩ := z
      rw [List.length_map] at h5
      refine s_ret (ev_var rfl) fun H6 e6 => ?_
      have e : digits c ss = (List.range ss.length).map (digA c ss) := by
        unfold digits
        refine List.map_congr_left fun i _ => ?_
        exact if_pos hc
      rw [e] at q
      exact q p H6 hp (e5.trans e6) (e6 _ _ h5)
  · have hc : ¬ 10 ^ 18 ≤ c := of_decide_eq_false hb
    refine q_asg (ev_mod (by decide) (ev_int (ev_var rfl)) ev_c) fun H4 e4 => ?_
    have e14 : Ex H H4 := ((e1.trans e2).trans e3).trans e4
    refine q_forR1 (ea_cons (ev_is (ev_cb (ea_cons (ev_var rfl) ea_nil) (rc_lenL (ex_l e14 hS))) (by rw [hl])) ea_nil) (by omega) (fun i σ' H' => (∃ u v, σ' = [some (.int c), some (.ref a), some (.ref p), some (.int c), none, some (.int (sdF c i)), u, v]) ∧ Ex H H' ∧ H' p = some (.lst (((List.range i).map (digB c ss)).map V.int))) ?_ ?_ ?_
    · intro H5 e5
      exact ⟨⟨none, none, rfl⟩, e14.trans e5, e5 _ _ (e4 _ _ (e3 _ _ (e2 _ _ h1)))⟩
    · intro i σ' H' hi z
      obtain ⟨⟨u, v, rfl⟩, e5, h5⟩ := z
      have hi' : i < ss.length := by omega
      obtain ⟨s1, s2⟩ := hss i hi'
      have b1 := sd_bound c (i + 1)
      refine q_asg (ev_mod (by decide) (ev_int (ev_add (ev_add (ev_mulR (by decide) (by decide) (ev_var rfl) ev_c) (ev_mulL (by decide) (by decide) ev_c (ev_var rfl))) ev_c)) ev_c) fun H6 e6 => ?_
      refine q_asg (ev_mod (by decide) (ev_int (ev_mulR (i := sdF c (i + 1)) (j := sdF c (i + 1) / 65537 + 3) (by omega) (by omega) (ev_var rfl) (ev_add (ev_div (by decide) (by decide) (ev_var rfl) ev_c) ev_c))) ev_c) fun H7 e7 => ?_
      refine s_app (e7 _ _ (e6 _ _ h5)) (ev_var rfl) (ev_mod s1 (ev_div (by decide) (by decide) (ev_var rfl) ev_c) (ev_at (ex_l ((e5.trans e6).trans e7) hS) hi' (ev_var rfl) (ev_var rfl))) (by rw [List.length_map, List.length_map, List.length_range]; omega) fun H8 e8 => ⟨⟨some (.int (i : Int)), some (.int (twF c i)), rfl⟩, (((e5.trans e6).trans e7).trans e8).mut hp, ?_⟩
      rw [map_range_succ]
      exact upd_same
    · intro σ' H' z
      obtain ⟨⟨u, v, rfl⟩, e5, h5⟩ := z
      refine s_ret (ev_var rfl) fun H6 e6 => ?_
      have e : digits c ss = (List.range ss.length).map (digB c ss) := by
        unfold digits
        refine List.map_congr_left fun i _ => ?_
        exact if_neg hc
      rw [e] at q
      exact q p H6 hp (e5.trans e6) (e6 _ _ h5)
end
end Ver
namespace Ver
open PySem PySem.Spec PyProof.Rows L2 Evl
section
variable {P : Program} {w : World} {K : PySem.W.Frag} {mg : Str → Option Value} {base : Heap} {C_Round : Addr}
theorem has_cell (F : At K mg "_law_cell" s__law_cell) (T : Top K mg C_Round) : Has P w K mg base "_law_cell" s__law_cell ["script", "k"] 1 (spCell K) := by
  obtain ⟨f, fd, F, m⟩ := F.ex
  refine ⟨f, fd, F, F.ok S__law_cell (fun vs H Q E h => ?_) (fun cdv A outer s H vs Q E hr h => ?_), F.binds fun _ _ _ _ _ _ us hl => match us, hl with | [_, _], _ => rfl, m, F.kp⟩
  · obtain ⟨a, ns, k, rfl, _⟩ := h
    rfl
  obtain ⟨a, ns, k, rfl, hS, h63, hk, q⟩ := h
  refine ⟨_, (pss_cons
    (ps_if (pt_cmpR op_lt (pv 1) (pe_callB call_len_seq rfl T.z_len PySem.boot_len (pa_cons (pv 0) pa_nil)) (nomark _)) (pss_one
    (ps_ret (pe_ix (r := rIxL K) ix_list (pv 0) (pv 1) (fun _ _ => rfl)))) pss_nil)
    (pss_cons
    (ps_set (i := 2) S__law_cell.nd rfl (Or.inl rfl) pe_int)
    (pss_cons
    (ps_for PassesOwn.never rfl (pi_list (pv 0)) (pg_name (i := 3) S__law_cell.nd rfl (Or.inl rfl)) (pss_one
    (ps_set (i := 2) S__law_cell.nd rfl (Or.inl rfl) (pe_op op_mod (pe_callTy call_int1 rfl T.z_int (by decide +kernel) (pa_cons (pe_op op_add (pe_op op_mul (pv 2) pe_int) (pe_op op_mod (pe_callTy call_int1 rfl T.z_int (by decide +kernel) (pa_cons (pv 3) pa_nil)) pe_int)) pa_nil)) pe_int))))
    (pss_one
    (ps_ret (pe_op op_mod (pe_callTy call_int1 rfl T.z_int (by decide +kernel) (pa_cons (pe_op op_mul (pe_op op_mul (pe_op op_add (pv 2) pe_int) (pe_op op_add (pv 1) pe_int)) pe_int) pa_nil)) pe_int)))))), ?_⟩
  have hl : (((ns.map V.int).length : Nat) : Int) = (ns.length : Int) := by rw [List.length_map]
  refine q_when (et_is (et_lt (ev_var rfl) (ev_is (ev_cb (ea_cons (ev_var rfl) ea_nil) (rc_lenL hS)) (by rw [hl]))) rfl) (fun hb H1 e1 => ?_) (fun hb H1 e1 => ?_)
  · have hlt : k < (ns.length : Int) := of_decide_eq_true hb
    have ek : k = ((k.toNat : Nat) : Int) := by omega
    refine s_ret (ev_at (ex_l e1 hS) (show k.toNat < ns.length by omega) (ev_var rfl) (ev_is (ev_var rfl) (by rw [← ek]))) fun H2 e2 => ?_
    have e : cell ns k = at0 ns k.toNat := if_pos hlt
    rw [e] at q
    exact q H2 (e1.trans e2)
  · have hlt : ¬ k < (ns.length : Int) := of_decide_eq_false hb
    refine q_asg ev_c fun H2 e2 => ?_
    refine q_forLn (ev_var rfl) (ex_l (e1.trans e2) hS) (fun i σ' H' => (∃ u, σ' = [some (.ref a), some (.int k), some (.int (seedF ns i)), u]) ∧ Ex H H') ?_ ?_ ?_ ?_
    · intro H3 e3
      exact ⟨⟨none, rfl⟩, (e1.trans e2).trans e3⟩
    · intro i σ' H' _ p
      exact ex_l p.2 hS
    · intro i x σ' H' hx p
      obtain ⟨⟨u, rfl⟩, e3⟩ := p
      obtain ⟨hi, rfl⟩ := at0_get hx
      refine s_asg (ev_mod (by decide) (ev_int (ev_add (ev_mulR (by decide) (by decide) (ev_var rfl) ev_c) (ev_mod (by decide) (ev_int (ev_var rfl)) ev_c))) ev_c) fun H4 e4 => ⟨⟨some (.int (at0 ns i)), rfl⟩, e3.trans e4⟩
    · intro σ' H' p
      obtain ⟨⟨u, rfl⟩, e3⟩ := p
      rw [List.length_map]
      refine s_ret (ev_mod (by decide) (ev_int (ev_mulR (by decide) (by decide) (ev_mulR (by omega) (by omega) (ev_add (ev_var rfl) ev_c) (ev_add (ev_var rfl) ev_c)) ev_c)) ev_c) fun H4 e4 => ?_
      have e : cell ns k = ((seedF ns ns.length + 7) * (k + 3) * 69621) % 2147483647 := if_neg hlt
      rw [e] at q
      exact q H4 (e3.trans e4)
end
end Ver
namespace Ver
open PySem PySem.Spec PyProof.Rows L2 Evl
section
variable {K : PySem.W.Frag} {σ : L2.St} {H : Hp} {ta tb tc te tl : TE} {tz : TS} {D : Ends}
/-- a list made over a text -/
theorem el_lcS {x : List Nat} {j : Nat} {vs : List Nat} (v : Nat → V) (h : Ev tl σ H (tx x)) (hz : x.length ≤ 40000) (hw : ∀ a, wipe ((wipe σ vs).set j (some a)) vs = wipe σ vs)
    (he : ∀ (i c : Nat) H1, Ex H H1 → x[i]? = some c → Ev te ((wipe σ vs).set j (some (tx [c]))) H1 (v c)) :
    EvL (tLc (iStr tl) (gName j) tYes te vs) σ H (x.map v) := fun H0 e Q q => h H0 e _ fun H1 e1 => ⟨SX.S x, rfl, fun Dl hD => by
  have hn : (SX.S x).cps.size = x.length := by
    show x.toArray.size = _
    simp
  let g : Nat → V := fun i => v (x.getD i 0)
  refine lc_it (walk_str (z := SX.S x)) (Cw H1 (fun _ => true) g Dl) ⟨hD, Ex.new hD, upd_same⟩ (fun _ _ _ _ => trivial) (fun i z H' H2 hi p yp => ?_) (fun H' p => ?_)
  · obtain ⟨rfl, c, hc, rfl⟩ := yp
    have hc2 : x[i]? = some c := by
      have : (SX.S x).cps.toList[i]? = some c := by rw [Array.getElem?_toList]; exact hc
      exact this
    have hlt := (List.getElem?_eq_some_iff.mp hc2).1
    have eg : g i = v c := by
      show v (x.getD i 0) = v c
      rw [List.getD_eq_getElem?_getD, hc2]
      rfl
    refine ⟨hw _, cw_turn p (by omega) et_yes fun _ => ?_⟩
    rw [eg]
    exact he i c H1 (e.trans e1) hc2
  · rw [hn] at p
    have p3 := p.2.2
    rw [given_all] at p3
    have ee : (List.range x.length).map g = x.map v := by
      refine List.ext_getElem (by simp) fun i h1 h2 => ?_
      have hi : i < x.length := by simpa using h2
      rw [List.getElem_map, List.getElem_map, List.getElem_range]
      show v (x.getD i 0) = _
      rw [List.getD_eq_getElem?_getD, List.getElem?_eq_getElem hi]
      rfl
    rw [ee] at p3
    exact q Dl H' (fresh_back e1 p.1) (e1.trans p.2.1) p3⟩
/-- a call whose second argument of three is a new list -/
theorem ev_call3L {sp : Sp} {E : XK} {x y z : V} {xs dvs : List V} (h : Ev ta σ H x) (hl : EvL tl σ H xs) (h3 : ∀ H1, Ex H H1 → Ev tb σ H1 y) (hs : ∀ p H1, Ex H H1 → H1 p = some (.lst xs) → SpV sp ([x, .ref p, y] ++ dvs) H1 z) : Ev (tCall sp dvs E (tCons ta (tCons tl (tCons tb tNil)))) σ H z := fun H1 e Q q =>
  h H1 e _ fun H2 e2 => hl H2 (e.trans e2) _ fun p H3 hp e3 g3 => h3 H3 ((e.trans e2).trans e3) H3 (Ex.refl H3) _ fun H4 e4 => hs p H4 (((e.trans e2).trans e3).trans e4) (e4 _ _ g3) H4 (Ex.refl H4) Q (fun H5 e5 => q H5 (((e2.trans e3).trans e4).trans e5)) E
/-- len of a new text, parts of texts -/
theorem over_cut {al l : List Nat} {lo hi : Option Int} (h : ∀ c ∈ l, c ∈ al) : ∀ c ∈ cutL l lo hi, c ∈ al := fun c hc => h c (cutL_sub c hc)
theorem over_app {al a b : List Nat} (h1 : ∀ c ∈ a, c ∈ al) (h2 : ∀ c ∈ b, c ∈ al) : ∀ c ∈ a ++ b, c ∈ al := fun c hc => (List.mem_append.mp hc).elim (h1 c) (h2 c)
theorem over_rep {al l : List Nat} {n : Nat} (h : ∀ c ∈ l, c ∈ al) : ∀ c ∈ (List.replicate n l).flatten, c ∈ al := fun c hc => by
  obtain ⟨m, hm, hc2⟩ := List.mem_flatten.mp hc
  rw [List.eq_of_mem_replicate hm] at hc2
  exact h c hc2
theorem rep_len {l : List Nat} {n : Nat} : (List.replicate n l).flatten.length = n * l.length := by
  induction n with
  | zero => simp
  | succ n ih => rw [List.replicate_succ, List.flatten_cons, List.length_append, ih, Nat.add_mul, Nat.one_mul, Nat.add_comm]
/-- a text over al, no longer than n -/
structure Word (al : List Nat) (n : Nat) (v : List Nat) : Prop where
  over : ∀ c ∈ v, c ∈ al
  len : v.length ≤ n
theorem Word.cut {al v : List Nat} {n m : Nat} (h : ∀ c ∈ v, c ∈ al) (hm : m ≤ n) : Word al n (cutL v none (some (m : Int))) := ⟨over_cut h, by rw [cutL_to, List.length_take]; omega⟩
theorem nodup_sub : ∀ (a b : List Nat), a.Nodup → (∀ x ∈ a, x ∈ b) → a.length ≤ b.length
  | [], b, _, _ => Nat.zero_le _
  | x :: r, b, nd, h => by
    have hx := h x (List.mem_cons_self ..)
    have ih := nodup_sub r (b.erase x) (List.nodup_cons.mp nd).2 fun y hy => (List.mem_erase_of_ne (fun (e : y = x) => (List.nodup_cons.mp nd).1 (e ▸ hy))).mpr (h y (List.mem_cons_of_mem _ hy))
    have e := List.length_erase_of_mem hx
    have hp : 0 < b.length := List.length_pos_of_mem hx
    show r.length + 1 ≤ _
    omega
end
end Ver
namespace Ver
open PySem PySem.Spec PyProof.Rows L2 Evl
/-! ### _law_alphabet -/
def figs : List Nat := [48, 49, 50, 51, 52, 53, 54, 55, 56, 57, 97, 98, 99, 100, 101, 102, 103, 104, 105, 106, 107, 108, 109, 110, 111, 112, 113, 114, 115, 116, 117, 118, 119, 120, 121, 122]
theorem figs_is : Str.ofString "0123456789abcdefghijklmnopqrstuvwxyz" = SX.S figs := by decide +kernel
theorem mt_is : Str.ofString "" = SX.S [] := by decide +kernel
theorem figs_let : ∀ c ∈ figs, (48 ≤ c ∧ c ≤ 57) ∨ (97 ≤ c ∧ c ≤ 122) := by decide +kernel
theorem figs_nd : figs.Nodup := by decide +kernel
theorem figs_at {i : Nat} (h : i < 36) : figs[i]? = some (figs.getD i 0) := by
  have : figs.length = 36 := rfl
  rw [List.getD_eq_getElem?_getD, List.getElem?_eq_getElem (by omega)]
  rfl
theorem figs_mem {i : Nat} (h : i < 36) : figs.getD i 0 ∈ figs := List.mem_of_getElem? (figs_at h)
theorem inV_one {c : Nat} {cs : List Nat} : inV (tx [c]) (cs.map fun c => tx [c]) = decide (c ∈ cs) := by
  unfold inV
  induction cs with
  | nil => rfl
  | cons d r ih =>
    rw [List.map_cons, List.any_cons, ih]
    show ((SX.S [d] == SX.S [c]) || decide (c ∈ r)) = _
    rw [SX.S_beq_eq, Bool.eq_iff_iff, Bool.or_eq_true, decide_eq_true_eq, decide_eq_true_eq, decide_eq_true_eq, List.mem_cons]
    constructor
    · rintro (h | h)
      · exact .inl (List.cons.inj h).1.symm
      · exact .inr h
    · rintro (h | h)
      · exact .inl (by rw [h])
      · exact .inr h
theorem flat_ones (cs : List Nat) : (cs.map fun c => tx [c]).all flatV = true := by
  induction cs with
  | nil => rfl
  | cons d r ih =>
    rw [List.map_cons, List.all_cons, ih]
    rfl
theorem rising_ones : ∀ (p : Nat) (cs : List Nat), risingS (SX.S [p]) (cs.map fun c => SX.S [c]) = true → (p :: cs).Pairwise (· ≤ ·)
  | p, [], _ => List.pairwise_singleton _ _
  | p, c :: r, h => by
    have h2 : (!ltCps [c] [p] && risingS (SX.S [c]) (r.map fun c => SX.S [c])) = true := h
    rw [Bool.and_eq_true, Bool.not_eq_true'] at h2
    have ih := rising_ones c r h2.2
    have hpc : p ≤ c := by
      have e : ltCps [c] [p] = (decide (c < p) || (c == p && ltCps [] [])) := rfl
      rw [e, Bool.or_eq_false_iff] at h2
      have := of_decide_eq_false h2.1.1
      omega
    refine List.pairwise_cons.mpr ⟨fun x hx => ?_, ih⟩
    rcases List.mem_cons.mp hx with rfl | hx
    · exact hpc
    · exact Nat.le_trans hpc ((List.pairwise_cons.mp ih).1 x hx)
theorem sorted_ones : ∀ (cs : List Nat), sortedS (cs.map fun c => SX.S [c]) = true → cs.Pairwise (· ≤ ·)
  | [], _ => List.Pairwise.nil
  | c :: r, h => rising_ones c r h
theorem flat_sing (cs : List Nat) : (cs.map fun c => [c]).flatten = cs := by
  induction cs with
  | nil => rfl
  | cons d r ih =>
    rw [List.map_cons, List.flatten_cons, ih]
    rfl
/-- the sorted signs of a list of different ones -/
theorem sorted_signs {cs : List Nat} {ys : List Str} (nd : cs.Nodup) (hp : ys.Perm (cs.map fun c => SX.S [c])) (hs : sortedS ys = true) : ∃ ds : List Nat, ys = ds.map (fun c => SX.S [c]) ∧ ds.Perm cs ∧ ds.Pairwise (· < ·) := by
  let g : Str → Nat := fun s => s.cps.toList.headD 0
  have hy : ys = (ys.map g).map fun c => SX.S [c] := by
    rw [List.map_map]
    refine (List.map_id' ys).symm.trans ?_ |> fun h => h
    refine List.map_congr_left fun y hm => ?_
    have := hp.mem_iff.mp hm
    obtain ⟨c, _, rfl⟩ := List.mem_map.mp this
    rfl
  have hd : (ys.map g).Perm cs := by
    have := hp.map g
    rw [List.map_map] at this
    have e : cs.map (g ∘ fun c => SX.S [c]) = cs := by
      conv => rhs; rw [← List.map_id' cs]
      exact List.map_congr_left fun _ _ => rfl
    rw [e] at this
    exact this
  refine ⟨ys.map g, hy, hd, ?_⟩
  have hle := sorted_ones (ys.map g) (by rw [← hy]; exact hs)
  have hnd := (hd.nodup_iff).mpr nd
  have := hle.and hnd
  exact this.imp fun h => Nat.lt_of_le_of_ne h.1 h.2
theorem s_retJoinX {K : PySem.W.Frag} {σ : L2.St} {H : Hp} {D : Ends} {te : TE} (h : te σ H fun y H2 => rJoin K (.str (Str.ofString "")) [y] H2 D.rt) : tRet (tM1 (rJoin K) (tC (.str (Str.ofString ""))) te) D σ H := ⟨⟨_, rfl⟩, h⟩
def manyOf (r0 : Int) : Int := at0 [2, 2, 2, 2, 3, 3, 3, 1, 4, 5, 6, 2] r0.toNat
section
variable {P : Program} {w : World} {K : PySem.W.Frag} {mg : Str → Option Value} {base : Heap} {C_Round : Addr}
def spSigns (K : PySem.W.Frag) : Sp := fun vs H Q _ => ∃ (a : Addr) (r : List Int), vs = [.ref a, .int 6] ∧ SqL K H a (r.map V.int) ∧ r.length = 7 ∧ (0 ≤ at0 r 0 ∧ at0 r 0 < 12) ∧ ∀ al, Alf al → RetV (tx al) H Q
theorem has_signs (F : At K mg "_law_alphabet" s__law_alphabet) (T : Top K mg C_Round) : Has P w K mg base "_law_alphabet" s__law_alphabet ["row", "upto"] 1 (spSigns K) := by
  obtain ⟨f, fd, F, m⟩ := F.ex
  refine ⟨f, fd, F, F.ok S__law_alphabet (fun vs H Q E h => ?_) (fun cdv A outer s H vs Q E hr h => ?_), F.binds fun _ _ _ _ _ _ us hl => match us, hl with | [_, _], _ => rfl, m, F.kp⟩
  · obtain ⟨a, r, rfl, _⟩ := h
    rfl
  obtain ⟨a, r, rfl, hR, hl, b0, q⟩ := h
  refine ⟨_, (pss_cons
    (ps_set (i := 2) S__law_alphabet.nd rfl (Or.inl rfl) (pe_callB (call_min2 rfl) rfl T.z_min (by decide +kernel) (pa_cons (pv 1) (pa_cons (pe_ix (r := rIxL K) ix_list (pe_lst (pa_cons pe_int (pa_cons pe_int (pa_cons pe_int (pa_cons pe_int (pa_cons pe_int (pa_cons pe_int (pa_cons pe_int (pa_cons pe_int (pa_cons pe_int (pa_cons pe_int (pa_cons pe_int (pa_cons pe_int pa_nil))))))))))))) (pe_ix (r := rIxL K) ix_list (pv 0) pe_int (fun _ _ => rfl)) (fun _ _ => rfl)) pa_nil))))
    (pss_cons
    (ps_set (i := 3) S__law_alphabet.nd rfl (Or.inl rfl) pe_str)
    (pss_cons
    (ps_set (i := 4) S__law_alphabet.nd rfl (Or.inl rfl) (pe_lst pa_nil))
    (pss_cons
    (ps_for PassesOwn.never rfl (pi_range1 rfl T.z_range (pa_cons (pv 2) pa_nil)) (pg_name (i := 5) S__law_alphabet.nd rfl (Or.inl rfl)) (pss_cons
    (ps_set (i := 6) S__law_alphabet.nd rfl (Or.inl rfl) (pe_op op_mod (pe_callTy call_int1 rfl T.z_int (by decide +kernel) (pa_cons (pe_ix (r := rIxL K) ix_list (pv 0) (pe_op op_add pe_int (pv 5)) (fun _ _ => rfl)) pa_nil)) pe_int))
    (pss_cons
    (ps_for PassesOwn.never rfl (pi_range1 rfl T.z_range (pa_cons pe_int pa_nil)) (pg_name (i := 7) S__law_alphabet.nd rfl (Or.inl rfl)) (pss_one
    (ps_if (pt_cmpR op_in_seq (pe_ix ix_str (pv 3) (pv 6) (fun _ _ => rfl)) (pv 4) rfl) (pss_one
    (ps_set (i := 6) S__law_alphabet.nd rfl (Or.inl rfl) (pe_op op_mod (pe_callTy call_int1 rfl T.z_int (by decide +kernel) (pa_cons (pe_op op_add (pv 6) pe_int) pa_nil)) pe_int))) pss_nil)))
    (pss_one
    (ps_expr (pe_bm PySem.F.plainAttrs_list PySem.F.slot_list_append PySem.F.type_list_append mt_append (pv 4) (pa_cons (pe_ix ix_str (pv 3) (pv 6) (fun _ _ => rfl)) pa_nil)))))))
    (pss_one
    (ps_ret (pe_join pe_str (pe_callB cr_sortedS rfl T.z_sorted (by decide +kernel) (pa_cons (pv 4) pa_nil))))))))), ?_⟩
  obtain ⟨i0, hi0, e0⟩ : ∃ i : Nat, i < 12 ∧ at0 r 0 = (i : Int) := ⟨(at0 r 0).toNat, by omega, by omega⟩
  have km : ∀ i : Nat, i < 12 → ∃ n : Nat, 1 ≤ n ∧ n ≤ 6 ∧ at0 [2, 2, 2, 2, 3, 3, 3, 1, 4, 5, 6, 2] i = (n : Int) := by
    intro i hi
    have k : ∀ i : Nat, i < 12 → 1 ≤ at0 [2, 2, 2, 2, 3, 3, 3, 1, 4, 5, 6, 2] i ∧ at0 [2, 2, 2, 2, 3, 3, 3, 1, 4, 5, 6, 2] i ≤ 6 := by decide +kernel
    obtain ⟨k1, k2⟩ := k i hi
    exact ⟨(at0 [2, 2, 2, 2, 3, 3, 3, 1, 4, 5, 6, 2] i).toNat, by omega, by omega, by omega⟩
  obtain ⟨n, n1, n6, en⟩ := km i0 hi0
  refine q_asg (v := .int (n : Int)) ?_ fun H1 e1 => ?_
  · refine ev_is (ev_cb (ea_cons (ev_var rfl) (ea_cons (?_ : Ev _ _ _ (.int (n : Int))) ea_nil)) rc_min) (by congr 1; omega)
    refine ev_opL1 (xs := [2, 2, 2, 2, 3, 3, 3, 1, 4, 5, 6, 2].map V.int) (y := .int (i0 : Int)) (el_lst (ea_cons ev_c (ea_cons ev_c (ea_cons ev_c (ea_cons ev_c (ea_cons ev_c (ea_cons ev_c (ea_cons ev_c (ea_cons ev_c (ea_cons ev_c (ea_cons ev_c (ea_cons ev_c (ea_cons ev_c ea_nil)))))))))))) (by show 12 ≤ 100000; decide)) (fun H1 e1 => ev_is (ev_atI (ex_l e1 hR) (i := 0) (by omega) rfl (ev_var rfl) ev_c) (by rw [e0])) (fun p H3 h3 e3 => rv_ixL (sq_of h3) ?_)
    rw [← en]
    exact at_int (ns := [2, 2, 2, 2, 3, 3, 3, 1, 4, 5, 6, 2]) hi0
  refine q_asg (v := tx figs) (ev_is ev_c (by rw [figs_is])) fun H2 e2 => ?_
  refine q_asgL (xs := []) (el_lst ea_nil (by decide)) fun l H3 hl3 e3 g3 => ?_
  have e13 := (e1.trans e2).trans e3
  have hl0 : H l = none := fresh_back (e1.trans e2) hl3
  refine q_forR1 (ea_cons (ev_var rfl) ea_nil) (by omega) (fun i σ' H' => (∃ u4 u5 u6, σ' = [some (.ref a), some (.int 6), some (.int (n : Int)), some (tx figs), some (.ref l), u4, u5, u6]) ∧ Ex H H' ∧ ∃ cs : List Nat, H' l = some (.lst (cs.map fun c => tx [c])) ∧ cs.length = i ∧ cs.Nodup ∧ ∀ c ∈ cs, c ∈ figs) ?_ ?_ ?_
  · intro H4 e4
    exact ⟨⟨none, none, none, rfl⟩, e13.trans e4, [], e4 _ _ g3, rfl, List.nodup_nil, fun c h => (by cases h)⟩
  · intro i σ' H' hi z
    obtain ⟨⟨u4, u5, u6, rfl⟩, e4, cs, g4, hcl, nd, sub⟩ := z
    have hi6 : i < 6 := by omega
    obtain ⟨a0, ha0, ea0⟩ : ∃ k : Nat, k < 36 ∧ at0 r (1 + i) % 36 = (k : Int) := ⟨(at0 r (1 + i) % 36).toNat, by omega, by omega⟩
    refine q_asg (v := .int (a0 : Int)) (ev_is (ev_mod (by decide) (ev_int (ev_atI (ex_l e4 hR) (i := 1 + i) (by omega) (by omega) (ev_var rfl) (ev_add ev_c (ev_var rfl)))) ev_c) (by rw [ea0])) fun H4 e5 => ?_
    have g5 := e5 _ _ g4
    refine q_forR1 (ea_cons ev_c ea_nil) (by decide) (fun t σ' H' => (∃ (k : Nat) (u6 : Option V), σ' = [some (.ref a), some (.int 6), some (.int (n : Int)), some (tx figs), some (.ref l), some (.int (i : Int)), some (.int (k : Int)), u6] ∧ k < 36 ∧ (figs.getD k 0 ∉ cs ∨ k = (a0 + t) % 36 ∧ ∀ s, s < t → figs.getD ((a0 + s) % 36) 0 ∈ cs)) ∧ Ex H4 H') ?_ ?_ ?_
    · intro H5 e6
      exact ⟨⟨a0, u6, rfl, ha0, .inr ⟨by omega, fun s hs => absurd hs (Nat.not_lt_zero _)⟩⟩, e6⟩
    · intro t σ' H' ht z
      obtain ⟨⟨k, u6, rfl, hk, hz⟩, e6⟩ := z
      refine s_when (et_test (ev_op (ev_ixS (by decide) (figs_at hk) (ev_var rfl) (ev_var rfl)) (ev_var rfl) (rv_isL (sq_of (e6 _ _ g5)) rfl (flat_ones cs)))) (fun hb H5 e7 => ?_) (fun hb H5 e7 => ?_)
      · rw [inV_one] at hb
        have hin := of_decide_eq_true hb
        obtain ⟨k2, hk2, ek2⟩ : ∃ k2 : Nat, k2 < 36 ∧ ((k : Int) + 1) % 36 = (k2 : Int) := ⟨(k + 1) % 36, by omega, by omega⟩
        refine s_asg (v := .int (k2 : Int)) (ev_is (ev_mod (by decide) (ev_int (ev_add (ev_var rfl) ev_c)) ev_c) (by rw [ek2])) fun H6 e8 => ⟨⟨k2, _, rfl, hk2, ?_⟩, (e6.trans e7).trans e8⟩
        rcases hz with hz | ⟨hz1, hz2⟩
        · exact absurd hin hz
        · refine .inr ⟨by omega, fun s hs => ?_⟩
          by_cases c : s < t
          · exact hz2 s c
          · have : s = t := by omega
            rw [this, ← hz1]
            exact hin
      · rw [inV_one] at hb
        have hout := of_decide_eq_false hb
        exact ⟨⟨k, _, rfl, hk, .inl hout⟩, e6.trans e7⟩
    · intro σ' H' z
      obtain ⟨⟨k, u6, rfl, hk, hz⟩, e6⟩ := z
      have hout : figs.getD k 0 ∉ cs := by
        rcases hz with hz | ⟨_, hz2⟩
        · exact hz
        · exfalso
          have := nodup_sub figs cs figs_nd fun x hx => by
            obtain ⟨j, hj, ej⟩ := List.mem_iff_getElem.mp hx
            have hj36 : j < 36 := hj
            have h2 := hz2 ((j + 36 - a0) % 36) (by show _ < 36; omega)
            have e9 : (a0 + (j + 36 - a0) % 36) % 36 = j := by omega
            rw [e9, List.getD_eq_getElem?_getD, List.getElem?_eq_getElem hj] at h2
            rw [← ej]
            exact h2
          have h36 : figs.length = 36 := rfl
          omega
      refine s_app (e6 _ _ g5) (ev_var rfl) (ev_ixS (by decide) (figs_at hk) (ev_var rfl) (ev_var rfl)) (by rw [List.length_map]; omega) fun H5 e7 => ⟨⟨_, _, _, rfl⟩, ((e4.trans e5).trans (e6.trans e7)).mut hl0, cs ++ [figs.getD k 0], ?_, by rw [List.length_append, hcl]; rfl, List.nodup_append.mpr ⟨nd, by simp, fun x hx y hy e => hout (by rw [← List.mem_singleton.mp hy, ← e]; exact hx)⟩, fun c hc => ?_⟩
      · rw [List.map_append]
        exact upd_same
      · rcases List.mem_append.mp hc with hc | hc
        · exact sub c hc
        · rw [List.mem_singleton.mp hc]
          exact figs_mem hk
  · intro σ' H' z
    obtain ⟨⟨u4, u5, u6, rfl⟩, e4, cs, g4, hcl, nd, sub⟩ := z
    rw [Int.toNat_natCast] at hcl
    have hms : (cs.map fun c => tx [c]) = (cs.map fun c => SX.S [c]).map V.str := by
      rw [List.map_map]
      rfl
    refine s_retJoinX ⟨_, rfl, l, cs.map (fun c => SX.S [c]), rfl, sq_of (by rw [← hms]; exact g4), by rw [List.length_map]; omega, fun ys p hp hs hpn => ?_⟩
    rw [mt_is]
    obtain ⟨ds, rfl, hdp, hda⟩ := sorted_signs nd hp hs
    have hdl := hdp.length_eq
    have hA : Alf ds := ⟨hda, by omega, by omega, fun c hc => figs_let c (sub c (hdp.mem_iff.mp hc))⟩
    have ej : (ds.map fun c => SX.S [c]) = (ds.map fun c => [c]).map SX.S := by
      rw [List.map_map]
      rfl
    have hfl : (ds.map fun c => [c]).flatten.length ≤ 100000 := by
      rw [flat_sing]
      omega
    refine join_ok (ps := ds.map fun c => [c]) (K := K) (.inl (sq_of (by rw [map_tx, ← ej]; exact upd_same))) hfl ?_
    rw [flat_sing]
    exact q ds hA _ (e4.trans (Ex.new hpn))
theorem Alf.ex {al : List Nat} (h : Alf al) (i : Nat) : al[i % al.length]? = some (al.getD (i % al.length) 0) ∧ al.getD (i % al.length) 0 ∈ al := by
  have hl : i % al.length < al.length := Nat.mod_lt _ h.pos
  have e : al[i % al.length]? = some (al.getD (i % al.length) 0) := by
    rw [List.getD_eq_getElem?_getD, List.getElem?_eq_getElem hl]
    rfl
  exact ⟨e, List.mem_of_getElem? e⟩
/-! ### _law_plain_text -/
def fwF (al : List Nat) (r : List Int) (k : Nat) : Nat := al.getD (at0 r k % (al.length : Int)).toNat 0
def fwL (al : List Nat) (r : List Int) (n : Nat) : List Nat := (List.range n).map (fwF al r)
def spFw (K : PySem.W.Frag) : Sp := fun vs H Q _ => ∃ (al : List Nat) (a : Addr) (r : List Int) (n : Nat), vs = [tx al, .ref a, .int (n : Int)] ∧ Alf al ∧ SqL K H a (r.map V.int) ∧ n ≤ r.length ∧ n ≤ 400 ∧ RetV (tx (fwL al r n)) H Q
theorem int_mod {x : Int} {n : Nat} (hn : 0 < n) : ∃ k : Nat, k < n ∧ x % (n : Int) = (k : Int) := by
  have h1 := Int.emod_nonneg x (show (n : Int) ≠ 0 by omega)
  have h2 := Int.emod_lt_of_pos x (show 0 < (n : Int) by omega)
  exact ⟨(x % (n : Int)).toNat, by omega, by omega⟩
theorem fwF_ok {al : List Nat} (h : Alf al) (r : List Int) (k : Nat) : fwF al r k ∈ al ∧ ∃ i : Nat, at0 r k % (al.length : Int) = (i : Int) ∧ al[i]? = some (fwF al r k) := by
  obtain ⟨i, hi, e⟩ := int_mod (x := at0 r k) h.pos
  have e2 : fwF al r k = al.getD i 0 := by
    unfold fwF
    rw [e, Int.toNat_natCast]
  have e3 : al[i]? = some (al.getD i 0) := by
    rw [List.getD_eq_getElem?_getD, List.getElem?_eq_getElem hi]
    rfl
  rw [e2]
  exact ⟨List.mem_of_getElem? e3, i, e, e3⟩
theorem has_fw (F : At K mg "_law_plain_text" s__law_plain_text) (T : Top K mg C_Round) : Has P w K mg base "_law_plain_text" s__law_plain_text ["abc", "row", "size"] 1 (spFw K) := by
  obtain ⟨f, fd, F, m⟩ := F.ex
  refine ⟨f, fd, F, F.ok S__law_plain_text (fun vs H Q E h => ?_) (fun cdv A outer s H vs Q E hr h => ?_), F.binds fun _ _ _ _ _ _ us hl => match us, hl with | [_, _, _], _ => rfl, m, F.kp⟩
  · obtain ⟨al, a, r, n, rfl, _⟩ := h
    rfl
  obtain ⟨al, a, r, n, rfl, hA, hR, hn, hz, q⟩ := h
  refine ⟨_, (pss_one
    (ps_ret (pe_join pe_str (pe_lc (own := [("k", 3)]) (g := gName 3) (tt := tYes) rfl S__law_plain_text.nd (pi_range1 rfl T.z_range (pa_cons (pv 2) pa_nil)) (blkOk_by (N := N__law_plain_text) (sc := defScope s__law_plain_text) (by decide +kernel)) (fun _ _ _ _ _ => pg_name (i := 3) S__law_plain_text.nd rfl (Or.inl rfl)) (fun _ _ _ _ _ => pts_nil) (fun _ _ _ _ _ => (pe_ix ix_str (pv 0) (pe_op op_mod (pe_callTy call_int1 rfl T.z_int (by decide +kernel) (pa_cons (pe_ix (r := rIxL K) ix_list (pv 1) (pv 3) (fun _ _ => rfl)) pa_nil)) (pe_callB call_len_str rfl T.z_len PySem.boot_len (pa_cons (pv 0) pa_nil))) (fun _ _ => rfl))))))), ?_⟩
  have h6 := hA.six
  have efl : ((List.range n).map fun k => [fwF al r k]).flatten = fwL al r n := by
    rw [show (fun k => [fwF al r k]) = (fun c => [c]) ∘ fwF al r from rfl, ← List.map_map, flat_sing]
    rfl
  refine s_ret (v := tx (fwL al r n)) (ev_is (ev_joinL (ps := (List.range n).map fun k => [fwF al r k]) (ev_is ev_c (by rw [mt_is])) ?_ ?_) (by rw [efl])) q
  · have g := el_lcR1 (j := 3) (vs := [3]) (σ := [some (tx al), some (.ref a), some (.int (n : Int)), none]) (H := H) (ta := tCons (tVar 2) tNil) (n := (n : Int)) (t := tYes) (fun _ => true) (fun i => tx [fwF al r i])
      (te := tOp rIxS (tVar 0) (tOp (rI (fun _ j => 0 < j) fun i j => .int (i % j)) (tCB (fun xs H Q => (∃ i, xs = [V.int i] ∧ Q (V.int i) H) ∨ ∃ k, xs = [V.bl k] ∧ Q (V.int (if k = true then 1 else 0)) H) (tCons (tOp (rIxL K) (tVar 1) (tVar 3)) tNil)) (tCB (fun vs H Q => ∃ z : Str, vs = [.str z] ∧ z.length ≤ sizeLine ∧ Q (.int (z.length : Int)) H) (tCons (tVar 0) tNil))))
      (ea_cons (ev_var rfl) ea_nil) (by omega) (fun x => rfl) (fun i H1 e1 hi => et_yes) (fun i H1 e1 hi _ => ?_)
    · rw [Int.toNat_natCast, given_all] at g
      rw [List.map_map]
      exact g
    · obtain ⟨_, k, ek, hk⟩ := fwF_ok hA r i
      exact ev_ixS (i := k) (by omega) hk (ev_var rfl) (ev_is (ev_mod (j := (al.length : Int)) (by have := hA.pos; omega) (ev_int (ev_at (ex_l e1 hR) (by omega) (ev_var rfl) (ev_var rfl))) (ev_lenS (by omega) (ev_var rfl))) (by rw [ek]))
  · rw [efl]
    unfold fwL
    rw [List.length_map, List.length_range]
    omega
theorem fwL_len {al : List Nat} {r : List Int} {n : Nat} : (fwL al r n).length = n := by
  unfold fwL
  rw [List.length_map, List.length_range]
theorem fwL_over {al : List Nat} (h : Alf al) {r : List Int} {n : Nat} : ∀ c ∈ fwL al r n, c ∈ al := fun c hc => by
  obtain ⟨k, _, rfl⟩ := List.mem_map.mp hc
  exact (fwF_ok h r k).1
theorem sv_fw {al : List Nat} {a : Addr} {r : List Int} {n : Nat} {H : Hp} (hA : Alf al) (hR : SqL K H a (r.map V.int)) (hn : n ≤ r.length) (hz : n ≤ 400) : SpV (spFw K) ([tx al, .ref a, .int (n : Int)] ++ []) H (tx (fwL al r n)) := fun _ e _ q _ => ⟨al, a, r, n, rfl, hA, ex_l e hR, hn, hz, q⟩
end
end Ver
namespace Ver
open PySem PySem.Spec PyProof.Rows L2 Evl
/-! ### texts of a Round, written out -/
theorem rpl_at {r : List Nat} : ∀ (m j : Nat), j < r.length * m → (List.replicate m r).flatten[j]? = some (rd r j)
  | 0, j, h => by
    rw [Nat.mul_zero] at h
    exact absurd h (Nat.not_lt_zero _)
  | m + 1, j, h => by
    rw [List.replicate_succ, List.flatten_cons]
    by_cases c : j < r.length
    · rw [List.getElem?_append_left c, rd_low c, take_getD c]
    · rw [List.getElem?_append_right (by omega), rpl_at m _ (by rw [Nat.mul_succ] at h; omega)]
      obtain ⟨k, rfl⟩ := Nat.exists_eq_add_of_le (show r.length ≤ j by omega)
      rw [Nat.add_sub_cancel_left, Nat.add_comm, rd_len]
theorem rpl_len {r : List Nat} (m : Nat) : (List.replicate m r).flatten.length = r.length * m := by
  induction m with
  | zero => rfl
  | succ m ih =>
    rw [List.replicate_succ, List.flatten_cons, List.length_append, ih, Nat.mul_succ]
    omega
/-- head and rings -/
theorem txt_at {h r t : List Nat} (ht : ∀ j, j < t.length → t[j]? = some (rd r j)) {j : Nat} (hj : j < h.length + t.length) : (h ++ t)[j]? = some (ex h r j) := by
  by_cases c : j < h.length
  · rw [List.getElem?_append_left c, ex_head c, take_getD c]
  · rw [List.getElem?_append_right (by omega), ex_rd' (by omega), ht _ (by omega)]
/-- a stretch of the text is a word -/
theorem cut_wrd {t : List Nat} {e : Nat → Nat} (ht : ∀ j, j < t.length → t[j]? = some (e j)) {k n : Nat} (h : k + n ≤ t.length) : (t.drop k).take n = wrd e n k := by
  refine List.ext_getElem? fun j => ?_
  unfold wrd
  by_cases c : j < n
  · rw [List.getElem?_take_of_lt c, List.getElem?_drop, ht _ (by omega), List.getElem?_map, List.getElem?_range c]
    rfl
  · rw [List.getElem?_eq_none (by rw [List.length_take]; omega), List.getElem?_eq_none (by rw [List.length_map, List.length_range]; omega)]
theorem Vty.le {h r : List Nat} {N : Nat} (v : Vty (ex h r) N) (hr : 0 < r.length) : N ≤ h.length + r.length := Nat.le_of_not_lt fun c => by
  have := v.dist h.length (h.length + r.length) (by omega) c fun x => by
    rw [show h.length + r.length + x = (h.length + x) + r.length by omega, ex_per (by omega)]
  omega
theorem Vty.pos {e : Nat → Nat} {N : Nat} (v : Vty e N) : 0 < N := by
  obtain ⟨s, hs, _⟩ := v.back
  omega
/-! the dict of the words -/
def kw (s : List Nat) : Key := Sum.inr (SX.S s)
theorem kw_inj {a b : List Nat} (h : kw a = kw b) : a = b := SX.S_inj (Sum.inr.inj h)
structure DwAt (kvs : List (Key × V)) (f : Nat → List Nat) (i : Nat) : Prop where
  len : kvs.length = dif f i
  there : ∀ b, b < i → valV kvs (kw (f b)) = some (.bl true)
  not : ∀ k, (∀ b, b < i → f b ≠ k) → valV kvs (kw k) = none
theorem DwAt.nil {f : Nat → List Nat} : DwAt [] f 0 := ⟨rfl, fun b h => absurd h (Nat.not_lt_zero _), fun _ _ => rfl⟩
theorem putK_old {κ : Type} [DecidableEq κ] {kvs : List (κ × V)} {k : κ} {v u : V} (h : valV kvs k = some u) : (putK kvs k v).length = kvs.length := by
  unfold putK
  rw [valV_any, h]
  show (if true = true then _ else _ : List (κ × V)).length = _
  rw [if_pos rfl, List.length_map]
theorem DwAt.put {kvs : List (Key × V)} {f : Nat → List Nat} {i : Nat} (h : DwAt kvs f i) : DwAt (putK kvs (kw (f i)) (.bl true)) f (i + 1) := by
  refine ⟨?_, fun a ha => ?_, fun k hk => ?_⟩
  · by_cases c : ∃ b, b < i ∧ f b = f i
    · obtain ⟨b, hb, e⟩ := c
      have := h.there b hb
      rw [e] at this
      rw [putK_old this, dif_old ⟨b, hb, e⟩, h.len]
    · have hn : ∀ b, b < i → f b ≠ f i := fun b hb e => c ⟨b, hb, e⟩
      rw [putK_new _ (h.not _ hn), List.length_append, h.len, dif_new hn]
      rfl
  · rw [valV_put]
    by_cases d : f a = f i
    · rw [d, if_pos rfl]
    · rw [if_neg fun e => d (kw_inj e)]
      refine h.there a ?_
      rcases Nat.lt_or_ge a i with z | z
      · exact z
      · exact absurd (by rw [show a = i by omega]) d
  · rw [valV_put, if_neg fun e => hk i (by omega) (kw_inj e).symm]
    exact h.not k fun a ha => hk a (by omega)
section
variable {P : Program} {w : World} {K : PySem.W.Frag} {mg : Str → Option Value} {base : Heap} {C_Round : Addr}
end
end Ver
namespace Ver
/-! ### the first letters -/
theorem beg_len (e : Nat → Nat) (n : Nat) : (beg e n).length = n := by
  unfold beg
  rw [List.length_map, List.length_range]
theorem beg_at {e : Nat → Nat} {n i : Nat} (h : i < n) : (beg e n)[i]? = some (e i) := by
  unfold beg
  rw [List.getElem?_map, List.getElem?_range h]
  rfl
end Ver
namespace Ver
open PySem PySem.Spec PyProof.Rows L2 Evl
section
variable {P : Program} {w : World} {K : PySem.W.Frag} {mg : Str → Option Value} {base : Heap} {C_Round : Addr}
/-! ### Round.beginning -/
def spBeg (C : Addr) : Sp := fun vs H Q _ => ∃ (p : Addr) (e : Nat → Nat) (N n : Nat), vs = [.ref p, .int (n : Int)] ∧ RndAt C H p e N ∧ N ≤ 1000 ∧ n ≤ 25000 ∧ RetV (tx (beg e n)) H Q
theorem beg_is {h r : List Nat} {e : Nat → Nat} {n : Nat} (hr : 0 < r.length) (he : ∀ i, ex h r i = e i) : (h ++ (List.replicate (n / r.length + 1) r).flatten).take n = beg e n := by
  have hl := rpl_len (r := r) (n / r.length + 1)
  have hd := Nat.lt_mul_div_succ n hr
  refine List.ext_getElem? fun i => ?_
  by_cases c : i < n
  · rw [List.getElem?_take_of_lt c, beg_at c, ← he i]
    exact txt_at (fun j hj => rpl_at _ j (by rw [hl] at hj; exact hj)) (by rw [hl]; omega)
  · rw [List.getElem?_eq_none (by rw [List.length_take]; omega), List.getElem?_eq_none (by rw [beg_len]; omega)]
theorem beg_small {n l : Nat} (hl : 0 < l) (hl2 : l ≤ 1000) (hn : n ≤ 25000) : n / l + 1 ≤ 100000 ∧ l * (n / l + 1) ≤ 26000 := by
  have h1 := Nat.div_le_self n l
  have h2 := Nat.mul_div_le n l
  rw [Nat.mul_add]
  omega
theorem beg_ok {f : Addr} {fd : FuncData} (F : Fun K "beginning" "Round.beginning" s_Round_beginning f fd) (T : Top K mg C_Round) : FnOk P w K mg base CX0 1 f fd ["self", "length"] (spBeg C_Round) := by
  refine F.ok S_Round_beginning (fun vs H Q E h => ?_) (fun cdv A outer s H vs Q E hr h => ?_)
  · obtain ⟨p, e, N, n, rfl, _⟩ := h
    rfl
  obtain ⟨p, e, N, n, rfl, hR, hN, hn, q⟩ := h
  refine ⟨_, (pss_one
    (ps_ret (pe_slice sl_str (pe_op op_add_str (pe_fld (pv 0) rfl) (pe_op op_mulS (pe_fld (pv 0) rfl) (pe_op op_add (pe_op op_fdivW (pv 1) (pe_callB call_len_str rfl T.z_len PySem.boot_len (pa_cons (pe_fld (pv 0) rfl) pa_nil))) pe_int))) po_none (po_some (pv 1))))), ?_⟩
  obtain ⟨dx, al, h, r, ip, hl, rp, same, _, _⟩ := hR.ex
  have cl := T.cl_Round
  obtain ⟨s1, s2⟩ := beg_small rp (by omega) hn
  have hlen := rpl_len (r := r) (n / r.length + 1)
  refine s_ret (v := tx (beg e n)) (ev_is (ev_slS (by rw [List.length_append, hlen]; omega) (ev_catS (by rw [hlen]; omega) (ev_fld (ev_var rfl) ip cl T.n_Round_head rf_head) (ev_mulS (n := n / r.length + 1) s1 (by omega) (ev_fld (ev_var rfl) ip cl T.n_Round_ring rf_ring)
    (ev_is (ev_add (ev_div (j := (r.length : Int)) (by omega) (by omega) (ev_var rfl) (ev_lenS (l := r) (by omega) (ev_fld (ev_var rfl) ip cl T.n_Round_ring rf_ring))) ev_c) (by rw [Int.natCast_add, Int.natCast_ediv]; rfl)))) eo_none (eo_some (i := (n : Int)) (ev_var rfl))) (by rw [cutL_to, beg_is rp same])) fun H1 e1 => q H1 e1
theorem has_beg (F : AtM K C_Round "beginning" "Round.beginning" s_Round_beginning) (T : Top K mg C_Round) : HasM P w K mg base C_Round "beginning" ["self", "length"] 1 (spBeg C_Round) := by
  obtain ⟨f, fd, F, M⟩ := F.ex
  exact ⟨f, fd, beg_ok F T, F.binds fun _ _ _ _ _ _ us hl => match us, hl with | [_, _], _ => rfl, M⟩
/-! ### _law_beginning -/
def spLb : Sp := fun vs H Q _ => ∃ (h r : List Nat) (n : Nat), vs = [tx h, tx r, .int (n : Int)] ∧ 0 < r.length ∧ r.length ≤ 1000 ∧ h.length ≤ 1000 ∧ n ≤ 25000 ∧ RetV (tx (beg (ex h r) n)) H Q
theorem has_lb (F : At K mg "_law_beginning" s__law_beginning) (T : Top K mg C_Round) : Has P w K mg base "_law_beginning" s__law_beginning ["front", "circle", "span"] 1 spLb := by
  obtain ⟨f, fd, F, m⟩ := F.ex
  refine ⟨f, fd, F, F.ok S__law_beginning (fun vs H Q E h => ?_) (fun cdv A outer s H vs Q E hr h => ?_), F.binds fun _ _ _ _ _ _ us hl => match us, hl with | [_, _, _], _ => rfl, m, F.kp⟩
  · obtain ⟨h, r, n, rfl, _⟩ := h
    rfl
  obtain ⟨h, r, n, rfl, rp, hr1, hh, hn, q⟩ := h
  refine ⟨_, (pss_one
    (ps_ret (pe_slice sl_str (pe_op op_add_str (pv 0) (pe_op op_mulS (pv 1) (pe_op op_add (pe_op op_fdivW (pv 2) (pe_callB call_len_str rfl T.z_len PySem.boot_len (pa_cons (pv 1) pa_nil))) pe_int))) po_none (po_some (pv 2))))), ?_⟩
  obtain ⟨s1, s2⟩ := beg_small rp hr1 hn
  have hlen := rpl_len (r := r) (n / r.length + 1)
  refine s_ret (v := tx (beg (ex h r) n)) (ev_is (ev_slS (by rw [List.length_append, hlen]; omega) (ev_catS (by rw [hlen]; omega) (ev_var rfl) (ev_mulS (n := n / r.length + 1) s1 (by omega) (ev_var rfl)
    (ev_is (ev_add (ev_div (j := (r.length : Int)) (by omega) (by omega) (ev_var rfl) (ev_lenS (l := r) (by omega) (ev_var rfl))) ev_c) (by rw [Int.natCast_add, Int.natCast_ediv]; rfl)))) eo_none (eo_some (i := (n : Int)) (ev_var rfl))) (by rw [cutL_to, beg_is rp fun i => rfl])) fun H1 e1 => q H1 e1
theorem sv_lb {h r : List Nat} {n : Nat} {H : Hp} (r1 : 0 < r.length) (r2 : r.length ≤ 1000) (h2 : h.length ≤ 1000) (hn : n ≤ 25000) : SpV spLb ([tx h, tx r, V.int (n : Int)] ++ []) H (tx (beg (ex h r) n)) := fun _ _ _ q _ => ⟨h, r, n, rfl, r1, r2, h2, hn, q⟩
end
end Ver
namespace Ver
open PySem PySem.Spec PyProof.Rows L2 Evl
section
variable {P : Program} {w : World} {K : PySem.W.Frag} {mg : Str → Option Value} {base : Heap} {C_Round : Addr}
/-! ### _law_giant -/
def gnm (r : List Int) : Nat → Nat
  | 0 => 0
  | k + 1 => gnm r k * 10 + (at0 r (1 + k)).toNat
theorem gnm_lt {r : List Int} : ∀ n, (∀ k, 1 ≤ k → k ≤ n → at0 r k ≤ 9) → gnm r n < 10 ^ n
  | 0, _ => Nat.zero_lt_one
  | n + 1, h => by
    have ih := gnm_lt n fun k h1 h2 => h k h1 (by omega)
    have h1 := h (1 + n) (by omega) (by omega)
    show gnm r n * 10 + (at0 r (1 + n)).toNat < 10 ^ n * 10
    omega
def giv (r : List Int) : Nat := if at0 r 0 = 31 then 10 ^ 30 else gnm r (at0 r 0).toNat
def spGi (K : PySem.W.Frag) : Sp := fun vs H Q _ => ∃ (a : Addr) (r : List Int), vs = [.ref a] ∧ SqL K H a (r.map V.int) ∧ r.length = 31 ∧ (0 ≤ at0 r 0 ∧ at0 r 0 < 32) ∧ (∀ k, k < 31 → 0 ≤ at0 r k) ∧ RetV (.int (giv r : Int)) H Q
theorem has_gi (F : At K mg "_law_giant" s__law_giant) (T : Top K mg C_Round) : Has P w K mg base "_law_giant" s__law_giant ["row"] 1 (spGi K) := by
  obtain ⟨f, fd, F, m⟩ := F.ex
  refine ⟨f, fd, F, F.ok S__law_giant (fun vs H Q E h => ?_) (fun cdv A outer s H vs Q E hr h => ?_), F.binds fun _ _ _ _ _ _ us hl => match us, hl with | [_], _ => rfl, m, F.kp⟩
  · obtain ⟨a, r, rfl, _⟩ := h
    rfl
  obtain ⟨a, r, rfl, hS, hl, b0, bk, q⟩ := h
  refine ⟨_, (pss_cons
    (ps_if (pt_cmpR op_eq (pe_ix (r := rIxL K) ix_list (pv 0) pe_int (fun _ _ => rfl)) pe_int (nomark _)) (pss_one
    (ps_ret (pe_op op_pow pe_int pe_int))) pss_nil)
    (pss_cons
    (ps_set (i := 1) S__law_giant.nd rfl (Or.inl rfl) pe_int)
    (pss_cons
    (ps_for PassesOwn.never rfl (pi_range1 rfl T.z_range (pa_cons (pe_ix (r := rIxL K) ix_list (pv 0) pe_int (fun _ _ => rfl)) pa_nil)) (pg_name (i := 2) S__law_giant.nd rfl (Or.inl rfl)) (pss_one
    (ps_set (i := 1) S__law_giant.nd rfl (Or.inl rfl) (pe_op op_add (pe_op op_mul (pv 1) pe_int) (pe_ix (r := rIxL K) ix_list (pv 0) (pe_op op_add pe_int (pv 2)) (fun _ _ => rfl))))))
    (pss_one
    (ps_ret (pv 1)))))), ?_⟩
  have hP : CPow 10 30 := ⟨by decide, by decide, by decide⟩
  refine q_when (et_eqI (ev_atI (i := 0) hS (by omega) rfl (ev_var rfl) ev_c) ev_c) (fun hb H1 e1 => ?_) (fun hb H1 e1 => ?_)
  · have e0 : giv r = 10 ^ 30 := if_pos (of_decide_eq_true hb)
    rw [e0] at q
    exact s_ret (v := .int ((10 ^ 30 : Nat) : Int)) (ev_is (ev_op ev_c ev_c (rv_I hP)) (by decide +kernel)) fun H2 e2 => q H2 (e1.trans e2)
  have h31 : at0 r 0 ≠ 31 := of_decide_eq_false hb
  have e0 : giv r = gnm r (at0 r 0).toNat := if_neg h31
  rw [e0] at q
  refine q_asg (v := .int ((0 : Nat) : Int)) ev_c fun H2 e2 => ?_
  have e12 := e1.trans e2
  refine q_forR1 (n := at0 r 0) (ea_cons (ev_atI (i := 0) (ex_l e12 hS) (by omega) rfl (ev_var rfl) ev_c) ea_nil) (by omega) (fun i σ' H' => (∃ (u : Option V), σ' = [some (.ref a), some (.int (gnm r i : Int)), u]) ∧ Ex H H') ?_ ?_ ?_
  · intro H3 e3
    exact ⟨⟨none, rfl⟩, e12.trans e3⟩
  · intro i σ' H' hi z
    obtain ⟨⟨u, rfl⟩, e3⟩ := z
    have hk := bk (1 + i) (by omega)
    refine s_asg (v := .int ((gnm r i * 10 + (at0 r (1 + i)).toNat : Nat) : Int)) (ev_is (ev_add (ev_mulR (by decide) (by decide) (ev_var rfl) ev_c) (ev_atI (i := 1 + i) (ex_l e3 hS) (by omega) (by omega) (ev_var rfl) (ev_add ev_c (ev_var rfl)))) (by congr 1; omega)) fun H4 e4 => ⟨⟨_, rfl⟩, e3.trans e4⟩
  · intro σ' H' z
    obtain ⟨⟨u, rfl⟩, e3⟩ := z
    exact s_ret (ev_var rfl) fun H4 e4 => q H4 (e3.trans e4)
end
end Ver
namespace Ver
open PySem PySem.Spec PyProof.Rows L2 Evl
section
variable {P : Program} {w : World} {K : PySem.W.Frag} {mg : Str → Option Value} {base : Heap} {C_Round : Addr}
/-! ### _law_form -/
def spForm : Sp := fun vs H Q _ => ∃ h r : List Nat, vs = [tx h, tx r] ∧ 0 < r.length ∧ r.length ≤ 60 ∧ h.length ≤ 60 ∧
  ∀ a b : List Nat, Vty (ex h r) (a.length + b.length) → a.length + b.length ≤ h.length + 60 → (∀ i, ex a b i = ex h r i) → 0 < b.length → b.length ≤ 60 → a.length ≤ h.length → RetL [tx a, tx b] H Q
theorem has_form (F : At K mg "_law_form" s__law_form) (T : Top K mg C_Round) : Has P w K mg base "_law_form" s__law_form ["front", "circle"] 1 spForm := by
  obtain ⟨f, fd, F, m⟩ := F.ex
  refine ⟨f, fd, F, F.ok S__law_form (fun vs H Q E h => ?_) (fun cdv A outer s H vs Q E hr h => ?_), F.binds fun _ _ _ _ _ _ us hl => match us, hl with | [_, _], _ => rfl, m, F.kp⟩
  · obtain ⟨h, r, rfl, _⟩ := h
    rfl
  obtain ⟨h, r, rfl, r1, r60, h4, q⟩ := h
  refine ⟨_, (pss_cons
    (ps_set (i := 2) S__law_form.nd rfl (Or.inl rfl) (pe_slice sl_str (pe_op op_add_str (pv 0) (pe_op op_mulS (pv 1) pe_int)) po_none (po_some pe_int)))
    (pss_cons
    (ps_set (i := 3) S__law_form.nd rfl (Or.inl rfl) (pe_callB call_len_str rfl T.z_len PySem.boot_len (pa_cons (pv 1) pa_nil)))
    (pss_cut
    (ps_for PassesOwn.never rfl (pi_range2 rfl T.z_range (pa_cons pe_int (pa_cons pe_int pa_nil))) (pg_name (i := 4) S__law_form.nd rfl (Or.inl rfl)) (pss_one
    (ps_if (pt_cmpR op_eq (pe_slice sl_str (pv 2) (po_some (pe_callB call_len_str rfl T.z_len PySem.boot_len (pa_cons (pv 0) pa_nil))) (po_some (pe_op op_add (pe_callB call_len_str rfl T.z_len PySem.boot_len (pa_cons (pv 0) pa_nil)) pe_int))) (pe_slice sl_str (pv 2) (po_some (pe_op op_add (pe_callB call_len_str rfl T.z_len PySem.boot_len (pa_cons (pv 0) pa_nil)) (pv 4))) (po_some (pe_op op_add (pe_op op_add (pe_callB call_len_str rfl T.z_len PySem.boot_len (pa_cons (pv 0) pa_nil)) (pv 4)) pe_int))) (nomark _)) (pss_cons
    (ps_set (i := 3) S__law_form.nd rfl (Or.inl rfl) (pv 4))
    (pss_one
    ps_break)) pss_nil)))
    (pss_cons
    (ps_set (i := 5) S__law_form.nd rfl (Or.inl rfl) (pe_callB call_len_str rfl T.z_len PySem.boot_len (pa_cons (pv 0) pa_nil)))
    (pss_cut
    (ps_for PassesOwn.never rfl (pi_range1 rfl T.z_range (pa_cons pe_int pa_nil)) (pg_name (i := 4) S__law_form.nd rfl (Or.inl rfl)) (pss_one
    (ps_if (pt_cmpR op_eq (pe_slice sl_str (pv 2) (po_some (pv 4)) (po_some (pe_op op_add (pv 4) pe_int))) (pe_slice sl_str (pv 2) (po_some (pe_op op_add (pv 4) (pv 3))) (po_some (pe_op op_add (pe_op op_add (pv 4) (pv 3)) pe_int))) (nomark _)) (pss_cons
    (ps_set (i := 5) S__law_form.nd rfl (Or.inl rfl) (pv 4))
    (pss_one
    ps_break)) pss_nil)))
    (pss_one
    (ps_ret (pe_lst (pa_cons (pe_slice sl_str (pv 2) po_none (po_some (pv 5))) (pa_cons (pe_slice sl_str (pv 2) (po_some (pv 5)) (po_some (pe_op op_add (pv 5) (pv 3)))) pa_nil)))))))))), ?_⟩
  have hrp : (List.replicate 240 r).flatten.length = r.length * 240 := rpl_len 240
  have hge : 240 ≤ r.length * 240 := by omega
  refine q_asg (v := tx ((h ++ (List.replicate 240 r).flatten).take 240)) (ev_is (ev_slS (l := h ++ (List.replicate 240 r).flatten) (by rw [List.length_append]; omega) (ev_catS (by omega) (ev_var rfl) (ev_mulS (n := 240) (by decide) (by omega) (ev_var rfl) ev_c)) eo_none (eo_some (i := ((240 : Nat) : Int)) ev_c)) (by rw [cutL_to])) fun H1 e1 => ?_
  generalize htx : (h ++ (List.replicate 240 r).flatten).take 240 = t
  have htl : t.length = 240 := by
    rw [← htx, List.length_take, List.length_append]
    omega
  have hat : ∀ j, j < t.length → t[j]? = some (ex h r j) := by
    intro j hj
    rw [htl] at hj
    rw [← htx, List.getElem?_take_of_lt hj]
    exact txt_at (fun i hi => rpl_at 240 i (by omega)) (by omega)
  refine q_asg (v := .int (r.length : Int)) (ev_lenS (l := r) (by omega) (ev_var rfl)) fun H2 e2 => ?_
  have e12 := e1.trans e2
  -- a stretch of the text
  have cut : ∀ {σ : L2.St} {H' : Hp} {t1 t2 : TE} (k n : Nat), k + n ≤ 240 → σ[2]? = some (some (tx t)) → Ev t1 σ H' (.int (k : Int)) → Ev t2 σ H' (.int ((k + n : Nat) : Int)) → Ev (tSl rSlS (tVar 2) (tPart t1) (tPart t2)) σ H' (tx (wrd (ex h r) n k)) := by
    intro σ H' t1 t2 k n hk hs h1 h2
    exact ev_is (ev_slS (l := t) (by omega) (ev_var hs) (eo_some h1) (eo_some h2)) (by rw [cutL_both, cut_wrd hat (by omega)])
  have hln : ∀ {σ : L2.St} {H' : Hp}, σ[0]? = some (some (tx h)) → Ev (tCB (fun vs H Q => ∃ z : Str, vs = [.str z] ∧ z.length ≤ sizeLine ∧ Q (.int (z.length : Int)) H) (tCons (tVar 0) tNil)) σ H' (.int (h.length : Int)) := fun hs => ev_lenS (l := h) (by omega) (ev_var hs)
  refine q_cut (M := fun σ' H' => ∃ (p : Nat) (u4 : Option V), σ' = [some (tx h), some (tx r), some (tx t), some (.int (p : Int)), u4, none] ∧ Ex H H' ∧ Per (rd r) p ∧ p ≤ 60) ?_ ?_
  · refine s_forR2 (lo := 1) (n := 61) (ea_cons ev_c (ea_cons ev_c ea_nil)) (by decide) (fun i σ' H' => (∃ u4, σ' = [some (tx h), some (tx r), some (tx t), some (.int (r.length : Int)), u4, none]) ∧ Ex H H' ∧ ∀ q, 0 < q → q ≤ i → ∃ x, rd r (x + q) ≠ rd r x) ?_ ?_ ?_
    · intro H3 e3
      exact ⟨⟨none, rfl⟩, e12.trans e3, fun q h1 h2 => absurd h1 (by omega)⟩
    · intro i σ' H' hi z
      obtain ⟨⟨u4, rfl⟩, e3, hno⟩ := z
      have ek : (1 : Int) + (i : Int) = ((i + 1 : Nat) : Int) := by omega
      rw [ek]
      refine s_when (et_eqS (a := wrd (ex h r) 60 h.length) (b := wrd (ex h r) 60 (h.length + (i + 1))) (cut h.length 60 (by omega) rfl (hln rfl) (ev_is (ev_add (hln rfl) ev_c) (by rw [Int.natCast_add]; rfl))) (cut (h.length + (i + 1)) 60 (by omega) rfl (ev_is (ev_add (hln rfl) (ev_var rfl)) (by congr 1)) (ev_is (ev_add (ev_add (hln rfl) (ev_var rfl)) ev_c) (by congr 1)))) (fun hb H4 e4 => ?_) (fun hb H4 e4 => ?_)
      · have hp := (win_iff (k := i + 1) r60 r1).mp (wrd_eq.mp (of_decide_eq_true hb))
        refine q_asg (ev_var rfl) fun H5 e5 => ?_
        exact ⟨i + 1, _, rfl, (e3.trans e4).trans e5, ⟨by omega, hp, fun q h1 h2 => hno q h1 (by omega)⟩, by omega⟩
      · refine ⟨⟨_, rfl⟩, e3.trans e4, fun q h1 h2 => ?_⟩
        by_cases c : q ≤ i
        · exact hno q h1 c
        · have : q = i + 1 := by omega
          subst this
          refine Classical.byContradiction fun hc => of_decide_eq_false hb (wrd_eq.mpr ((win_iff (k := i + 1) r60 r1).mpr fun x => ?_))
          exact Classical.byContradiction fun hx => hc ⟨x, hx⟩
    · intro σ' H' z
      obtain ⟨_, _, hno⟩ := z
      obtain ⟨x, hx⟩ := hno r.length r1 (by
        show r.length ≤ 60
        exact r60)
      exact absurd (rd_len x) hx
  intro σ' H' z
  obtain ⟨p, u4, rfl, e3, P60, hp60⟩ := z
  have pos := P60.pos
  refine q_asg (v := .int (h.length : Int)) (hln rfl) fun H4 e4 => ?_
  have e34 := e3.trans e4
  refine q_cut (M := fun σ' H' => ∃ (s : Nat) (u4 : Option V), σ' = [some (tx h), some (tx r), some (tx t), some (.int (p : Int)), u4, some (.int (s : Int))] ∧ Ex H H' ∧ s ≤ h.length ∧ Vty (ex h r) (s + p) ∧ ∀ j, s ≤ j → ex h r (j + p) = ex h r j) ?_ ?_
  · have win : wrd (ex h r) 60 h.length = wrd (ex h r) 60 (h.length + p) := wrd_eq.mpr fun x _ => by
      rw [show h.length + p + x = h.length + (p + x) by omega, ex_rd, ex_rd, Nat.add_comm p x, P60.per]
    refine s_forR1 (n := 61) (ea_cons ev_c ea_nil) (by decide) (fun i σ' H' => (∃ u4, σ' = [some (tx h), some (tx r), some (tx t), some (.int (p : Int)), u4, some (.int (h.length : Int))]) ∧ Ex H H' ∧ ∀ k, k < i → wrd (ex h r) 60 k ≠ wrd (ex h r) 60 (k + p)) ?_ ?_ ?_
    · intro H5 e5
      exact ⟨⟨_, rfl⟩, e34.trans e5, fun k hk => absurd hk (Nat.not_lt_zero _)⟩
    · intro i σ' H' hi z
      obtain ⟨⟨u4, rfl⟩, e5, hno⟩ := z
      have hi' : i ≤ h.length := Nat.le_of_not_lt fun c => hno h.length c win
      refine s_when (et_eqS (a := wrd (ex h r) 60 i) (b := wrd (ex h r) 60 (i + p)) (cut i 60 (by omega) rfl (ev_var rfl) (ev_is (ev_add (ev_var rfl) ev_c) (by rw [Int.natCast_add]; rfl))) (cut (i + p) 60 (by omega) rfl (ev_is (ev_add (ev_var rfl) (ev_var rfl)) (by rw [Int.natCast_add])) (ev_is (ev_add (ev_add (ev_var rfl) (ev_var rfl)) ev_c) (by congr 1)))) (fun hb H6 e6 => ?_) (fun hb H6 e6 => ?_)
      · refine q_asg (ev_var rfl) fun H7 e7 => ?_
        have hw := wrd_eq.mp (of_decide_eq_true hb)
        have per : ∀ j, i ≤ j → j < h.length + 60 → ex h r (j + p) = ex h r j := by
          intro j j1 j2
          by_cases c : j < i + 60
          · have := hw (j - i) (by omega)
            rw [show i + (j - i) = j by omega, show i + p + (j - i) = j + p by omega] at this
            exact this.symm
          · rw [ex_rd' (by omega), ex_rd' (by omega), show j + p - h.length = (j - h.length) + p by omega, P60.per]
        refine ⟨i, _, rfl, (e5.trans e6).trans e7, hi', frm_vty P60 hi' per (fun k hk => ?_), frm_all P60 per⟩
        refine Classical.byContradiction fun hc => hno k hk (wrd_eq.mpr fun x hx => ?_)
        refine Classical.byContradiction fun hx2 => hc ⟨k + x, by omega, by omega, fun e => hx2 ?_⟩
        rw [← e]
        congr 1
        omega
      · refine ⟨⟨_, rfl⟩, e5.trans e6, fun k hk => ?_⟩
        by_cases c : k < i
        · exact hno k c
        · have : k = i := by omega
          subst this
          exact of_decide_eq_false hb
    · intro σ' H' z
      obtain ⟨⟨u4, rfl⟩, e5, hno⟩ := z
      exact absurd win (hno h.length (by show h.length < 61; omega))
  intro σ' H' z
  obtain ⟨s, u5, rfl, e5, hs, vty, per⟩ := z
  refine s_retL (xs := [tx (t.take s), tx (wrd (ex h r) p s)]) (el_lst (ea_cons (ev_is (ev_slS (l := t) (by omega) (ev_var rfl) eo_none (eo_some (i := (s : Int)) (ev_var rfl))) (by rw [cutL_to])) (ea_cons (cut s p (by omega) rfl (ev_var rfl) (ev_is (ev_add (ev_var rfl) (ev_var rfl)) (by rw [Int.natCast_add]))) ea_nil)) (by show 2 ≤ 100000; decide)) fun l H6 hl e6 g6 => ?_
  have l1 : (t.take s).length = s := by
    rw [List.length_take]
    omega
  have l2 : (wrd (ex h r) p s).length = p := by
    unfold wrd
    rw [List.length_map, List.length_range]
  have ts : t.take s = wrd (ex h r) s 0 := by
    have c0 := cut_wrd hat (k := 0) (n := s) (by omega)
    rw [List.drop_zero] at c0
    exact c0
  exact q _ _ (by rw [l1, l2]; exact vty) (by rw [l1, l2]; omega) (by rw [ts]; exact frm_same pos per) (by omega) (by omega) (by omega) l H6 (fresh_back e5 hl) (e5.trans e6) g6
end
end Ver
namespace Ver
open PySem PySem.Spec PyProof.Rows L2 Evl
/-! ### texts over an alphabet -/
def Onl (al v : List Nat) : Prop := ∀ c ∈ v, c ∈ al
theorem Onl.take {al v : List Nat} (h : Onl al v) (n : Nat) : Onl al (v.take n) := fun c hc => h c (List.mem_of_mem_take hc)
theorem Onl.drop {al v : List Nat} (h : Onl al v) (n : Nat) : Onl al (v.drop n) := fun c hc => h c (List.mem_of_mem_drop hc)
theorem Onl.app {al v u : List Nat} (h : Onl al v) (k : Onl al u) : Onl al (v ++ u) := fun c hc => (List.mem_append.mp hc).elim (h c) (k c)
theorem Onl.one {al : List Nat} {c : Nat} (h : c ∈ al) : Onl al [c] := fun d hd => by
  rw [List.mem_singleton.mp hd]
  exact h
theorem Onl.rep {al v : List Nat} (h : Onl al v) : ∀ n, Onl al (List.replicate n v).flatten
  | 0 => fun c hc => by simp at hc
  | n + 1 => by
    rw [List.replicate_succ, List.flatten_cons]
    exact h.app (Onl.rep h n)
theorem Onl.nil {al : List Nat} : Onl al [] := fun c hc => by cases hc
theorem cutL_last {l : List Nat} : cutL l none (some (-1)) = l.take (l.length - 1) := by
  unfold cutL
  rw [HT.sIx_none, Nat.sub_zero, List.drop_zero]
  congr 1
  show (if (-1 : Int) < 0 then (-1 + (l.length : Int)).toNat else min (-1 : Int).toNat l.length) = _
  rw [if_pos (by decide)]
  omega
/-- the letter so many places on -/
theorem next_letter {al : List Nat} (hA : Alf al) {c : Nat} (hc : c ∈ al) (z : Int) : ∃ i k d : Nat, al[i]? = some c ∧ (((i : Int) + 1) + z) % (al.length : Int) = (k : Int) ∧ al[k]? = some d ∧ d ∈ al := by
  have h1 := List.idxOf_lt_length_of_mem hc
  obtain ⟨k, hk, ek⟩ := int_mod (x := ((al.idxOf c : Int) + 1) + z) hA.pos
  refine ⟨al.idxOf c, k, al.getD k 0, ?_, ek, take_getD hk, List.mem_of_getElem? (take_getD hk)⟩
  rw [List.getElem?_eq_getElem h1, List.getElem_idxOf h1]
structure WRw (r : List Int) : Prop where
  len : r.length = 8
  nn : ∀ i, i < 8 → 0 ≤ at0 r i
  b1 : at0 r 1 ≤ 8
  b2 : at0 r 2 ≤ 8
  b3 : at0 r 3 ≤ 60
  b4 : at0 r 4 ≤ 60
  b5 : at0 r 5 ≤ 9
  b6 : at0 r 6 ≤ 60
section
variable {P : Program} {w : World} {K : PySem.W.Frag} {mg : Str → Option Value} {base : Heap} {C_Round : Addr}
def spWri (K : PySem.W.Frag) : Sp := fun vs H Q _ => ∃ (al : List Nat) (a b c : Addr) (r ns ms : List Int), vs = [tx al, .ref a, .ref b, .ref c] ∧ Alf al ∧ SqL K H a (r.map V.int) ∧ WRw r ∧ SqL K H b (ns.map V.int) ∧ ns.length = 60 ∧ SqL K H c (ms.map V.int) ∧ ms.length = 60 ∧
  ∀ h v : List Nat, Onl al h → h.length ≤ 60 → Onl al v → 1 ≤ v.length → v.length ≤ 60 → RetL [tx h, tx v] H Q
theorem has_wri (F : At K mg "_law_writing" s__law_writing) (T : Top K mg C_Round) (h1 : Has P w K mg base "_law_plain_text" s__law_plain_text ["abc", "row", "size"] 1 (spFw K)) : Has P w K mg base "_law_writing" s__law_writing ["abc", "row", "one", "two"] 2 (spWri K) := by
  obtain ⟨f, fd, F, m⟩ := F.ex
  obtain ⟨f1, fd1, _, G__law_plain_text, b__law_plain_text, m__law_plain_text, k__law_plain_text⟩ := h1
  refine ⟨f, fd, F, F.ok S__law_writing (fun vs H Q E h => ?_) (fun cdv A outer s H vs Q E hr h => ?_), F.binds fun _ _ _ _ _ _ us hl => match us, hl with | [_, _, _, _], _ => rfl, m, F.kp⟩
  · obtain ⟨al, a, b, c, r, ns, ms, rfl, _⟩ := h
    rfl
  obtain ⟨al, a, b, c, r, ns, ms, rfl, hA, hR, hW, hN, nl60, hM, ml60, q⟩ := h
  refine ⟨_, (pss_cons
    (ps_set (i := 4) S__law_writing.nd rfl (Or.inl rfl) (pe_call G__law_plain_text (hr.mono (by decide)) rfl m__law_plain_text k__law_plain_text b__law_plain_text .nil pass0 (pa_cons (pv 0) (pa_cons (pv 2) (pa_cons pe_int pa_nil)))))
    (pss_cons
    (ps_set (i := 5) S__law_writing.nd rfl (Or.inl rfl) (pe_call G__law_plain_text (hr.mono (by decide)) rfl m__law_plain_text k__law_plain_text b__law_plain_text .nil pass0 (pa_cons (pv 0) (pa_cons (pv 3) (pa_cons pe_int pa_nil)))))
    (pss_cons
    (ps_set (i := 6) S__law_writing.nd rfl (Or.inl rfl) (pe_ix (r := rIxL K) ix_list (pv 1) pe_int (fun _ _ => rfl)))
    (pss_cons
    (ps_set (i := 7) S__law_writing.nd rfl (Or.inl rfl) (pe_slice sl_str (pv 4) po_none (po_some (pe_ix (r := rIxL K) ix_list (pv 1) pe_int (fun _ _ => rfl)))))
    (pss_cons
    (ps_set (i := 8) S__law_writing.nd rfl (Or.inl rfl) (pe_slice sl_str (pv 5) po_none (po_some (pe_op op_add pe_int (pe_ix (r := rIxL K) ix_list (pv 1) pe_int (fun _ _ => rfl))))))
    (pss_cons
    (ps_set (i := 9) S__law_writing.nd rfl (Or.inl rfl) (pe_op op_mulS (pv 8) (pe_callB (call_min2 rfl) rfl T.z_min (by decide +kernel) (pa_cons (pe_op op_add pe_int (pe_ix (r := rIxL K) ix_list (pv 1) pe_int (fun _ _ => rfl))) (pa_cons (pe_op op_fdivW pe_int (pe_callB call_len_str rfl T.z_len PySem.boot_len (pa_cons (pv 8) pa_nil))) pa_nil)))))
    (pss_cons
    (ps_set (i := 10) S__law_writing.nd rfl (Or.inl rfl) (pe_slice sl_str (pe_op op_mulS (pv 8) pe_int) (po_some (pe_op op_sub (pe_op op_mul pe_int (pe_callB call_len_str rfl T.z_len PySem.boot_len (pa_cons (pv 8) pa_nil))) (pe_op op_mod (pe_callTy call_int1 rfl T.z_int (by decide +kernel) (pa_cons (pe_ix (r := rIxL K) ix_list (pv 1) pe_int (fun _ _ => rfl)) pa_nil)) pe_int))) po_none))
    (pss_cons
    (ps_set (i := 11) S__law_writing.nd rfl (Or.inl rfl) (pe_ix ix_str (pv 0) (pe_op op_mod (pe_callTy call_int1 rfl T.z_int (by decide +kernel) (pa_cons (pe_op op_add (pe_op op_add (pe_bm PySem.F.plainAttrs_str PySem.F.slot_str_index PySem.F.type_str_index mt_sindex (pv 0) (pa_cons (pe_ix ix_str (pv 8) (pe_un un_neg pe_int) (fun _ _ => rfl)) pa_nil)) pe_int) (pe_ix (r := rIxL K) ix_list (pv 1) pe_int (fun _ _ => rfl))) pa_nil)) (pe_callB call_len_str rfl T.z_len PySem.boot_len (pa_cons (pv 0) pa_nil))) (fun _ _ => rfl)))
    (pss_cons
    (ps_set (i := 12) S__law_writing.nd rfl (Or.inl rfl) (pe_slice sl_str (pv 5) po_none (po_some (pe_op op_add pe_int (pe_op op_mod (pe_callTy call_int1 rfl T.z_int (by decide +kernel) (pa_cons (pe_ix (r := rIxL K) ix_list (pv 1) pe_int (fun _ _ => rfl)) pa_nil)) pe_int)))))
    (pss_cons
    (ps_if (pt_cmpR op_eq (pv 6) pe_int (nomark _)) (pss_one
    (ps_ret (pe_lst (pa_cons (pe_slice sl_str (pv 4) po_none (po_some (pe_ix (r := rIxL K) ix_list (pv 1) pe_int (fun _ _ => rfl)))) (pa_cons (pe_slice sl_str (pv 5) po_none (po_some (pe_callB (call_max2 rfl) rfl T.z_max (by decide +kernel) (pa_cons pe_int (pa_cons (pe_ix (r := rIxL K) ix_list (pv 1) pe_int (fun _ _ => rfl)) pa_nil))))) pa_nil))))) pss_nil)
    (pss_cons
    (ps_if (pt_cmpR op_lt (pv 6) pe_int (nomark _)) (pss_one
    (ps_ret (pe_lst (pa_cons (pv 7) (pa_cons (pv 8) pa_nil))))) pss_nil)
    (pss_cons
    (ps_if (pt_cmpR op_lt (pv 6) pe_int (nomark _)) (pss_one
    (ps_ret (pe_lst (pa_cons (pv 7) (pa_cons (pv 9) pa_nil))))) pss_nil)
    (pss_cons
    (ps_if (pt_cmpR op_lt (pv 6) pe_int (nomark _)) (pss_one
    (ps_ret (pe_lst (pa_cons (pe_op op_add_str (pv 7) (pv 10)) (pa_cons (pv 9) pa_nil))))) pss_nil)
    (pss_cons
    (ps_if (pt_cmpR op_eq (pv 6) pe_int (nomark _)) (pss_one
    (ps_ret (pe_lst (pa_cons (pe_slice sl_str (pe_op op_mulS (pv 8) pe_int) (po_some (pe_op op_sub (pe_op op_mul pe_int (pe_callB call_len_str rfl T.z_len PySem.boot_len (pa_cons (pv 8) pa_nil))) (pe_ix (r := rIxL K) ix_list (pv 1) pe_int (fun _ _ => rfl)))) po_none) (pa_cons (pv 9) pa_nil))))) pss_nil)
    (pss_cons
    (ps_if (pt_cmpR op_eq (pv 6) pe_int (nomark _)) (pss_one
    (ps_ret (pe_lst (pa_cons (pe_op op_add_str (pv 7) (pv 10)) (pa_cons (pv 8) pa_nil))))) pss_nil)
    (pss_cons
    (ps_if (pt_cmpR op_eq (pv 6) pe_int (nomark _)) (pss_one
    (ps_ret (pe_lst (pa_cons (pe_op op_add_str (pv 7) (pv 10)) (pa_cons (pe_op op_add_str (pe_slice sl_str (pv 9) po_none (po_some (pe_un un_neg pe_int))) (pv 11)) pa_nil))))) pss_nil)
    (pss_cons
    (ps_if (pt_cmpR op_eq (pv 6) pe_int (nomark _)) (pss_one
    (ps_ret (pe_lst (pa_cons (pe_op op_mulS (pe_ix ix_str (pv 8) pe_int (fun _ _ => rfl)) (pe_ix (r := rIxL K) ix_list (pv 1) pe_int (fun _ _ => rfl))) (pa_cons (pe_op op_mulS (pe_ix ix_str (pv 8) pe_int (fun _ _ => rfl)) (pe_callB (call_max2 rfl) rfl T.z_max (by decide +kernel) (pa_cons pe_int (pa_cons (pe_ix (r := rIxL K) ix_list (pv 1) pe_int (fun _ _ => rfl)) pa_nil)))) pa_nil))))) pss_nil)
    (pss_cons
    (ps_if (pt_cmpR op_eq (pv 6) pe_int (nomark _)) (pss_one
    (ps_ret (pe_lst (pa_cons (pe_op op_add_str (pe_slice sl_str (pv 4) po_none (po_some (pe_op op_mod (pe_callTy call_int1 rfl T.z_int (by decide +kernel) (pa_cons (pe_ix (r := rIxL K) ix_list (pv 1) pe_int (fun _ _ => rfl)) pa_nil)) pe_int))) (pe_slice sl_str (pv 12) (po_some (pe_op op_mod (pe_callTy call_int1 rfl T.z_int (by decide +kernel) (pa_cons (pe_ix (r := rIxL K) ix_list (pv 1) pe_int (fun _ _ => rfl)) pa_nil)) (pe_callB call_len_str rfl T.z_len PySem.boot_len (pa_cons (pv 12) pa_nil)))) po_none)) (pa_cons (pe_op op_add_str (pv 12) (pv 12)) pa_nil))))) pss_nil)
    (pss_cons
    (ps_if (pt_cmpR op_eq (pv 6) pe_int (nomark _)) (pss_cons
    (ps_set (i := 13) S__law_writing.nd rfl (Or.inl rfl) (pe_op op_mod (pe_callTy call_int1 rfl T.z_int (by decide +kernel) (pa_cons (pe_ix (r := rIxL K) ix_list (pv 1) pe_int (fun _ _ => rfl)) pa_nil)) (pe_callB call_len_str rfl T.z_len PySem.boot_len (pa_cons (pv 12) pa_nil))))
    (pss_one
    (ps_ret (pe_lst (pa_cons (pv 7) (pa_cons (pe_op op_add_str (pe_op op_add_str (pe_op op_add_str (pv 12) (pe_slice sl_str (pv 12) po_none (po_some (pv 13)))) (pv 11)) (pe_slice sl_str (pv 12) (po_some (pe_op op_add (pv 13) pe_int)) po_none)) pa_nil)))))) pss_nil)
    (pss_cons
    (ps_if (pt_cmpR op_eq (pv 6) pe_int (nomark _)) (pss_one
    (ps_ret (pe_lst (pa_cons pe_str (pa_cons (pv 9) pa_nil))))) pss_nil)
    (pss_one
    (ps_ret (pe_lst (pa_cons (pe_op op_add_str (pe_op op_add_str (pv 7) (pv 11)) (pv 10)) (pa_cons (pv 9) pa_nil))))))))))))))))))))))))), ?_⟩
  obtain ⟨hlen, hnn, b1, b2, b3, b4, b5, b6⟩ := hW
  have h6 := hA.six
  have nat_ : ∀ i, i < 8 → ∃ x : Nat, at0 r i = (x : Int) := fun i hi => ⟨(at0 r i).toNat, by have := hnn i hi; omega⟩
  obtain ⟨x1, ex1⟩ := nat_ 1 (by omega)
  obtain ⟨x2, ex2⟩ := nat_ 2 (by omega)
  obtain ⟨x3, ex3⟩ := nat_ 3 (by omega)
  obtain ⟨x4, ex4⟩ := nat_ 4 (by omega)
  obtain ⟨x5, ex5⟩ := nat_ 5 (by omega)
  obtain ⟨x6, ex6⟩ := nat_ 6 (by omega)
  obtain ⟨x7, ex7⟩ := nat_ 7 (by omega)
  have at_ : ∀ {σ : L2.St} {H' : Hp} (i x : Nat), Ex H H' → i < 8 → at0 r i = (x : Int) → ∀ z : Int, z = (i : Int) → σ[1]? = some (some (.ref a)) → Ev (tOp (rIxL K) (tVar 1) (tC (.int z))) σ H' (.int (x : Int)) := by
    intro σ H' i x e hi hx z hz hs
    have g := ev_atI (ex_l e hR) (show i < r.length by omega) hz (ev_var hs) ev_c
    rw [hx] at g
    exact g
  have md_ : ∀ {σ : L2.St} {H' : Hp} (i x k : Nat), Ex H H' → i < 8 → at0 r i = (x : Int) → 0 < k → ∀ z y : Int, z = (i : Int) → y = (k : Int) → σ[1]? = some (some (.ref a)) → Ev (tOp (rI (fun _ j => 0 < j) fun i j => .int (i % j)) (tCB (fun xs H Q => (∃ i, xs = [V.int i] ∧ Q (V.int i) H) ∨ ∃ k, xs = [V.bl k] ∧ Q (V.int (if k = true then 1 else 0)) H) (tCons (tOp (rIxL K) (tVar 1) (tC (.int z))) tNil)) (tC (.int y))) σ H' (.int ((x % k : Nat) : Int)) := by
    intro σ H' i x k e hi hx hk z y hz hy hs
    subst hy
    exact ev_is (ev_mod (j := (k : Int)) (by omega) (ev_int (at_ i x e hi hx z hz hs)) ev_c) (by rw [Int.natCast_emod])
  have o1 : Onl al (fwL al ns 60) := fwL_over hA
  have o2 : Onl al (fwL al ms 60) := fwL_over hA
  have l1 : (fwL al ns 60).length = 60 := fwL_len
  have l2 : (fwL al ms 60).length = 60 := fwL_len
  refine q_asg (v := tx (fwL al ns 60)) (ev_call (vs := [tx al, .ref b, .int 60]) (ea_cons (ev_var rfl) (ea_cons (ev_var rfl) (ea_cons ev_c ea_nil))) (sv_fw (n := 60) hA hN (by omega) (by omega))) fun H1 e1 => ?_
  refine q_asg (v := tx (fwL al ms 60)) (ev_call (vs := [tx al, .ref c, .int 60]) (ea_cons (ev_var rfl) (ea_cons (ev_var rfl) (ea_cons ev_c ea_nil))) (sv_fw (n := 60) hA (ex_l e1 hM) (by omega) (by omega))) fun H2 e2 => ?_
  generalize fwL al ns 60 = hd at *
  generalize fwL al ms 60 = rg at *
  have e12 := e1.trans e2
  refine q_asg (v := .int (at0 r 0)) (ev_atI (i := 0) (ex_l e12 hR) (by omega) rfl (ev_var rfl) ev_c) fun H3 e3 => ?_
  generalize at0 r 0 = kd
  have e13 := e12.trans e3
  refine q_asg (v := tx (hd.take x1)) (ev_is (ev_slS (by omega) (ev_var rfl) eo_none (eo_some (i := (x1 : Int)) (at_ 1 x1 e13 (by omega) ex1 1 rfl rfl))) (by rw [cutL_to])) fun H4 e4 => ?_
  have e14 := e13.trans e4
  refine q_asg (v := tx (rg.take (1 + x2))) (ev_is (ev_slS (by omega) (ev_var rfl) eo_none (eo_some (i := ((1 + x2 : Nat) : Int)) (ev_is (ev_add ev_c (at_ 2 x2 e14 (by omega) ex2 2 rfl rfl)) (by rw [Int.natCast_add]; rfl)))) (by rw [cutL_to])) fun H5 e5 => ?_
  have os : Onl al (hd.take x1) := o1.take _
  have ls : (hd.take x1).length = x1 := by
    rw [List.length_take]
    omega
  have oroot : Onl al (rg.take (1 + x2)) := o2.take _
  have lroot : (rg.take (1 + x2)).length = 1 + x2 := by
    rw [List.length_take]
    omega
  generalize hd.take x1 = small at *
  generalize rg.take (1 + x2) = root at *
  have e15 := e14.trans e5
  have hroot : ∀ {σ : L2.St} {H' : Hp}, σ[8]? = some (some (tx root)) → Ev (tCB (fun vs H Q => ∃ z : Str, vs = [.str z] ∧ z.length ≤ sizeLine ∧ Q (.int (z.length : Int)) H) (tCons (tVar 8) tNil)) σ H' (.int ((1 + x2 : Nat) : Int)) := fun hs => ev_is (ev_lenS (l := root) (by omega) (ev_var hs)) (by rw [lroot])
  have hmul : (1 + x2) * (60 / (1 + x2)) ≤ 60 := Nat.mul_div_le _ _
  have hdiv : 1 ≤ 60 / (1 + x2) := (Nat.le_div_iff_mul_le (by omega)).mpr (by omega)
  have hmm : (1 + x2) * min (1 + x5) (60 / (1 + x2)) ≤ 60 := Nat.le_trans (Nat.mul_le_mul_left _ (Nat.min_le_right _ _)) hmul
  have hmm1 : (1 + x2) * 1 ≤ (1 + x2) * min (1 + x5) (60 / (1 + x2)) := Nat.mul_le_mul_left _ (by omega)
  refine q_asg (v := tx (List.replicate (min (1 + x5) (60 / (1 + x2))) root).flatten) (ev_mulS (n := min (1 + x5) (60 / (1 + x2))) (by omega) (by rw [lroot]; omega) (ev_var rfl) (ev_is (ev_cb (ea_cons (ev_add ev_c (at_ 5 x5 e15 (by omega) ex5 5 rfl rfl)) (ea_cons (ev_div (j := ((1 + x2 : Nat) : Int)) (by omega) (by omega) ev_c (hroot rfl)) ea_nil)) rc_min) (by rw [show (60 : Int) / ((1 + x2 : Nat) : Int) = ((60 / (1 + x2) : Nat) : Int) from (Int.natCast_ediv 60 (1 + x2)).symm]; congr 1; omega))) fun H6 e6 => ?_
  have om : Onl al (List.replicate (min (1 + x5) (60 / (1 + x2))) root).flatten := oroot.rep _
  have lm : (List.replicate (min (1 + x5) (60 / (1 + x2))) root).flatten.length = (1 + x2) * min (1 + x5) (60 / (1 + x2)) := by rw [rpl_len, lroot]
  generalize (List.replicate (min (1 + x5) (60 / (1 + x2))) root).flatten = many at *
  have m60 : many.length ≤ 60 := by rw [lm]; exact hmm
  have m1 : 1 ≤ many.length := by rw [lm]; omega
  clear lm hmm hmm1 hmul hdiv
  have e16 := e15.trans e6
  have o60 : Onl al (List.replicate 60 root).flatten := oroot.rep _
  have l60 : (List.replicate 60 root).flatten.length = (1 + x2) * 60 := by rw [rpl_len, lroot]
  -- the last n letters of sixty roots
  have lst : ∀ {σ : L2.St} {H' : Hp} {tn : TE} (n : Nat), n ≤ 60 → σ[8]? = some (some (tx root)) → Ev tn σ H' (.int (n : Int)) → Ev (tSl rSlS (tOp rMulS (tVar 8) (tC (.int 60))) (tPart (tOp (rI0 fun i j => .int (i - j)) (tOp (rI CMul fun i j => .int (i * j)) (tC (.int 60)) (tCB (fun vs H Q => ∃ z : Str, vs = [.str z] ∧ z.length ≤ sizeLine ∧ Q (.int (z.length : Int)) H) (tCons (tVar 8) tNil))) tn)) tNoPart) σ H' (tx ((List.replicate 60 root).flatten.drop ((1 + x2) * 60 - n))) := by
    intro σ H' tn n hn hs ht
    exact ev_is (ev_slS (by omega) (ev_mulS (n := 60) (by decide) (by omega) (ev_var hs) ev_c) (eo_some (i := (((1 + x2) * 60 - n : Nat) : Int)) (ev_is (ev_sub (ev_mulR (j := ((1 + x2 : Nat) : Int)) (by omega) (by omega) ev_c (hroot hs)) ht) (by congr 1; omega))) eo_none) (by rw [cutL_from])
  refine q_asg (v := tx ((List.replicate 60 root).flatten.drop ((1 + x2) * 60 - x6 % 25))) (lst (x6 % 25) (by omega) rfl (md_ 6 x6 25 e16 (by omega) ex6 (by omega) 6 25 rfl rfl rfl)) fun H7 e7 => ?_
  have ot : Onl al ((List.replicate 60 root).flatten.drop ((1 + x2) * 60 - x6 % 25)) := o60.drop _
  have lt : ((List.replicate 60 root).flatten.drop ((1 + x2) * 60 - x6 % 25)).length = x6 % 25 := by
    rw [List.length_drop, l60]
    omega
  generalize (List.replicate 60 root).flatten.drop ((1 + x2) * 60 - x6 % 25) = tail at *
  have e17 := e16.trans e7
  have hlast : root.getD (root.length - 1 - 0) 0 ∈ root := List.mem_of_getElem? (take_getD (by omega))
  obtain ⟨i0, k0, d0, hi0, ek0, hk0, hd0⟩ := next_letter hA (oroot _ hlast) (x7 : Int)
  refine q_asg (v := tx [d0]) (ev_ixS (i := k0) (by omega) hk0 (ev_var rfl) (ev_is (ev_mod (j := (al.length : Int)) (by have := hA.pos; omega) (ev_int (ev_add (ev_add (ev_sidx hA.nd hi0 (ev_var rfl) (ev_ixB (l := root) (k := 0) (by omega) (by omega) (ev_var rfl) (ev_is (ev_un ev_c ru_neg) rfl))) ev_c) (at_ 7 x7 e17 (by omega) ex7 7 rfl rfl))) (ev_lenS (l := al) (by omega) (ev_var rfl))) (by rw [ek0]))) fun H8 e8 => ?_
  have e18 := e17.trans e8
  have oo : Onl al [d0] := Onl.one hd0
  refine q_asg (v := tx (rg.take (1 + x4 % 30))) (ev_is (ev_slS (by omega) (ev_var rfl) eo_none (eo_some (i := ((1 + x4 % 30 : Nat) : Int)) (ev_is (ev_add ev_c (md_ 4 x4 30 e18 (by omega) ex4 (by omega) 4 30 rfl rfl rfl)) (by rw [Int.natCast_add]; rfl)))) (by rw [cutL_to])) fun H9 e9 => ?_
  have oh : Onl al (rg.take (1 + x4 % 30)) := o2.take _
  have lh : (rg.take (1 + x4 % 30)).length = 1 + x4 % 30 := by
    rw [List.length_take]
    omega
  generalize rg.take (1 + x4 % 30) = half at *
  have e19 := e18.trans e9
  have out : ∀ {D : Ends} {t1 t2 : TE} {σ : L2.St} {H' : Hp} (h v : List Nat), D.rt = Q → Ex H H' → Ev t1 σ H' (tx h) → Ev t2 σ H' (tx v) → Onl al h → h.length ≤ 60 → Onl al v → 1 ≤ v.length → v.length ≤ 60 → tRet (tLst (tCons t1 (tCons t2 tNil))) D σ H' := by
    intro D t1 t2 σ H' h v hD e g1 g2 p1 p2 p3 p4 p5
    refine s_retL (xs := [tx h, tx v]) (el_lst (ea_cons g1 (ea_cons g2 ea_nil)) (by show 2 ≤ 100000; decide)) fun l H2 hl e2 g => ?_
    rw [hD]
    exact q h v p1 p2 p3 p4 p5 l H2 (fresh_back e hl) (e.trans e2) g
  refine q_when (et_eqI (ev_var rfl) ev_c) (fun hb H10 e10 => ?_) (fun hb H10 e10 => ?_)
  · refine out (hd.take x3) (rg.take (max 1 x4)) rfl (e19.trans e10) (ev_is (ev_slS (by omega) (ev_var rfl) eo_none (eo_some (i := (x3 : Int)) (at_ 3 x3 (e19.trans e10) (by omega) ex3 3 rfl rfl))) (by rw [cutL_to]))
      (ev_is (ev_slS (by omega) (ev_var rfl) eo_none (eo_some (i := ((max 1 x4 : Nat) : Int)) (ev_is (ev_cb (ea_cons ev_c (ea_cons (at_ 4 x4 (e19.trans e10) (by omega) ex4 4 rfl rfl) ea_nil)) rc_max) (by congr 1; omega)))) (by rw [cutL_to])) (o1.take _) (by rw [List.length_take]; omega) (o2.take _) (by rw [List.length_take]; omega) (by rw [List.length_take]; omega)
  have f1 := e19.trans e10
  refine q_when (et_lt (ev_var rfl) ev_c) (fun hb H11 e11 => ?_) (fun hb H11 e11 => ?_)
  · exact out small root rfl (f1.trans e11) (ev_var rfl) (ev_var rfl) os (by omega) oroot (by omega) (by omega)
  have f2 := f1.trans e11
  refine q_when (et_lt (ev_var rfl) ev_c) (fun hb H12 e12' => ?_) (fun hb H12 e12' => ?_)
  · exact out small many rfl (f2.trans e12') (ev_var rfl) (ev_var rfl) os (by omega) om (by omega) (by omega)
  have f3 := f2.trans e12'
  refine q_when (et_lt (ev_var rfl) ev_c) (fun hb H13 e13' => ?_) (fun hb H13 e13' => ?_)
  · exact out (small ++ tail) many rfl (f3.trans e13') (ev_catS (by omega) (ev_var rfl) (ev_var rfl)) (ev_var rfl) (os.app ot) (by rw [List.length_append]; omega) om (by omega) (by omega)
  have f4 := f3.trans e13'
  refine q_when (et_eqI (ev_var rfl) ev_c) (fun hb H14 e14' => ?_) (fun hb H14 e14' => ?_)
  · exact out _ many rfl (f4.trans e14') (lst x6 (by omega) rfl (at_ 6 x6 (f4.trans e14') (by omega) ex6 6 rfl rfl)) (ev_var rfl) (o60.drop _) (by rw [List.length_drop, l60]; omega) om (by omega) (by omega)
  have f5 := f4.trans e14'
  refine q_when (et_eqI (ev_var rfl) ev_c) (fun hb H15 e15' => ?_) (fun hb H15 e15' => ?_)
  · exact out (small ++ tail) root rfl (f5.trans e15') (ev_catS (by omega) (ev_var rfl) (ev_var rfl)) (ev_var rfl) (os.app ot) (by rw [List.length_append]; omega) oroot (by omega) (by omega)
  have f6 := f5.trans e15'
  refine q_when (et_eqI (ev_var rfl) ev_c) (fun hb H16 e16' => ?_) (fun hb H16 e16' => ?_)
  · exact out (small ++ tail) (many.take (many.length - 1) ++ [d0]) rfl (f6.trans e16') (ev_catS (by omega) (ev_var rfl) (ev_var rfl)) (ev_catS (b := [d0]) (by rw [List.length_take]; show _ + 1 ≤ _; omega) (ev_is (ev_slS (by omega) (ev_var rfl) eo_none (eo_some (i := -1) (ev_un ev_c ru_neg))) (by rw [cutL_last])) (ev_var rfl)) (os.app ot) (by rw [List.length_append]; omega) ((om.take _).app oo) (by rw [List.length_append]; show 1 ≤ _ + 1; omega) (by rw [List.length_append, List.length_take]; show _ + 1 ≤ 60; omega)
  have f7 := f6.trans e16'
  have hc0 : root[0]? = some (root.getD 0 0) := take_getD (by omega)
  have oc0 : Onl al [root.getD 0 0] := Onl.one (oroot _ (List.mem_of_getElem? hc0))
  refine q_when (et_eqI (ev_var rfl) ev_c) (fun hb H17 e17' => ?_) (fun hb H17 e17' => ?_)
  · have f17 := f7.trans e17'
    refine out (List.replicate x3 [root.getD 0 0]).flatten (List.replicate (max 1 x4) [root.getD 0 0]).flatten rfl f17 (ev_mulS (l := [root.getD 0 0]) (n := x3) (by omega) (by show 1 * x3 ≤ _; omega) (ev_ixS (i := 0) (by omega) hc0 (ev_var rfl) ev_c) (at_ 3 x3 f17 (by omega) ex3 3 rfl rfl))
      (ev_mulS (l := [root.getD 0 0]) (n := max 1 x4) (by omega) (by show 1 * max 1 x4 ≤ _; omega) (ev_ixS (i := 0) (by omega) hc0 (ev_var rfl) ev_c) (ev_is (ev_cb (ea_cons ev_c (ea_cons (at_ 4 x4 f17 (by omega) ex4 4 rfl rfl) ea_nil)) rc_max) (by congr 1; omega))) (oc0.rep _) (by rw [rpl_len]; show 1 * x3 ≤ 60; omega) (oc0.rep _) (by rw [rpl_len]; show 1 ≤ 1 * max 1 x4; omega) (by rw [rpl_len]; show 1 * max 1 x4 ≤ 60; omega)
  have f8 := f7.trans e17'
  refine q_when (et_eqI (ev_var rfl) ev_c) (fun hb H18 e18' => ?_) (fun hb H18 e18' => ?_)
  · have f18 := f8.trans e18'
    refine out (hd.take (x3 % 31) ++ half.drop (x6 % (1 + x4 % 30))) (half ++ half) rfl f18 (ev_catS (by rw [List.length_take, List.length_drop]; omega) (ev_is (ev_slS (by omega) (ev_var rfl) eo_none (eo_some (i := ((x3 % 31 : Nat) : Int)) (md_ 3 x3 31 f18 (by omega) ex3 (by omega) 3 31 rfl rfl rfl))) (by rw [cutL_to]))
      (ev_is (ev_slS (by omega) (ev_var rfl) (eo_some (i := ((x6 % (1 + x4 % 30) : Nat) : Int)) (ev_is (ev_mod (j := ((1 + x4 % 30 : Nat) : Int)) (by omega) (ev_int (at_ 6 x6 f18 (by omega) ex6 6 rfl rfl)) (ev_is (ev_lenS (l := half) (by omega) (ev_var rfl)) (by rw [lh]))) (by rw [Int.natCast_emod]))) eo_none) (by rw [cutL_from]))) (ev_catS (by omega) (ev_var rfl) (ev_var rfl)) ((o1.take _).app (oh.drop _)) (by rw [List.length_append, List.length_take, List.length_drop]; omega) (oh.app oh) (by rw [List.length_append]; omega) (by rw [List.length_append]; omega)
  have f9 := f8.trans e18'
  refine q_when (et_eqI (ev_var rfl) ev_c) (fun hb H19 e19' => ?_) (fun hb H19 e19' => ?_)
  · have f19 := f9.trans e19'
    have hm := Nat.mod_lt x7 (show 0 < 1 + x4 % 30 by omega)
    refine q_asg (v := .int ((x7 % (1 + x4 % 30) : Nat) : Int)) (ev_is (ev_mod (j := ((1 + x4 % 30 : Nat) : Int)) (by omega) (ev_int (at_ 7 x7 f19 (by omega) ex7 7 rfl rfl)) (ev_is (ev_lenS (l := half) (by omega) (ev_var rfl)) (by rw [lh]))) (by rw [Int.natCast_emod])) fun H20 e20 => ?_
    generalize x7 % (1 + x4 % 30) = t at *
    refine out small (half ++ half.take t ++ [d0] ++ half.drop (t + 1)) rfl (f19.trans e20) (ev_var rfl) (ev_catS (by simp only [List.length_append, List.length_take, List.length_drop, List.length_singleton]; omega) (ev_catS (b := [d0]) (by simp only [List.length_append, List.length_take, List.length_singleton]; omega) (ev_catS (by simp only [List.length_take]; omega) (ev_var rfl) (ev_is (ev_slS (by omega) (ev_var rfl) eo_none (eo_some (i := (t : Int)) (ev_var rfl))) (by rw [cutL_to]))) (ev_var rfl))
      (ev_is (ev_slS (by omega) (ev_var rfl) (eo_some (i := ((t + 1 : Nat) : Int)) (ev_is (ev_add (ev_var rfl) ev_c) (by rw [Int.natCast_add]; rfl))) eo_none) (by rw [cutL_from]))) os (by omega) (((oh.app (oh.take _)).app oo).app (oh.drop _)) (by simp only [List.length_append, List.length_take, List.length_drop, List.length_singleton]; omega) (by simp only [List.length_append, List.length_take, List.length_drop, List.length_singleton]; omega)
  have f10 := f9.trans e19'
  refine q_when (et_eqI (ev_var rfl) ev_c) (fun hb H20 e20 => ?_) (fun hb H20 e20 => ?_)
  · exact out [] many rfl (f10.trans e20) (ev_is ev_c (by rw [mt_is])) (ev_var rfl) Onl.nil (Nat.zero_le _) om (by omega) (by omega)
  exact out (small ++ [d0] ++ tail) many rfl (f10.trans e20) (ev_catS (by simp only [List.length_append, List.length_singleton]; omega) (ev_catS (b := [d0]) (by show _ + 1 ≤ _; omega) (ev_var rfl) (ev_var rfl)) (ev_var rfl)) (ev_var rfl) ((os.app oo).app ot) (by simp only [List.length_append, List.length_singleton]; omega) om (by omega) (by omega)
end
end Ver
namespace Ver
open PySem PySem.Spec PyProof.Rows L2 Evl
section
variable {P : Program} {w : World} {K : PySem.W.Frag} {mg : Str → Option Value} {base : Heap} {C_Round : Addr}
/-! ### _law_long_right -/
theorem run_rnd {σ : L2.St} {H : Hp} {tp : TA} {E : XK} {C : Addr} {al h v : List Nat} {Q : VK} (hA : Alf al) (oh : Onl al h) (ov : Onl al v) (l1 : 1 ≤ v.length) (lv : v.length ≤ 60) (lh : h.length ≤ 400) (hp : EvA tp σ H [tx al, tx h, tx v])
    (k : ∀ p N H2, H p = none → Ex H H2 → N ≤ h.length + v.length → RndAt C H2 p (ex h v) N → Q (.ref p) H2) : tMake C (spRnd C) [] E tp σ H Q := hp H (Ex.refl H) _ fun H1 e1 x dx hx hdx ne =>
  ⟨al, h, v, x, dx, H1, rfl, (Ex.new hdx).trans (Ex.new (by rw [upd_ne ne.symm]; exact hx)), hx, upd_same, hA, oh, ov, by omega, by omega, by omega, fun H2 N e2 hN hR _ => ⟨rfl, k x N H2 (fresh_back e1 hx) (e1.trans e2) hN hR⟩⟩
theorem run_c4 {D : Ends} {σ : L2.St} {H : Hp} {sp : Sp} {E : XK} {t1 : TE} {tr : TA} (h : t1 σ H fun x H1 => tr σ H1 fun xs H2 => sp ((x :: xs) ++ []) H2 D.rt E) : tRet (tCall sp [] E (tCons t1 tr)) D σ H := h
theorem run_consL {σ : L2.St} {H : Hp} {tl : TE} {tr : TA} {xs : List V} {Q : List V → Hp → Prop} (hl : EvL tl σ H xs) (k : ∀ p H1, Ex H H1 → H1 p = some (.lst xs) → tr σ H1 fun vs H2 => Q (.ref p :: vs) H2) : tCons tl tr σ H Q := hl H (Ex.refl H) _ fun p H1 _ e g => k p H1 e g
theorem run_args {σ : L2.St} {H : Hp} {ta : TA} {vs : List V} {Q : List V → Hp → Prop} (h : EvA ta σ H vs) (k : ∀ H1, Ex H H1 → Q vs H1) : ta σ H Q := h H (Ex.refl H) Q k
end
end Ver
namespace Ver
/-- the least form is one -/
theorem rep_one {e : Nat → Nat} {N : Nat} (v : Vty e N) {h1 r1 h2 r2 : List Nat} (e1 : ∀ i, ex h1 r1 i = e i) (e2 : ∀ i, ex h2 r2 i = e i) (p1 : 0 < r1.length) (p2 : 0 < r2.length) (l1 : h1.length + r1.length = N) (l2 : h2.length + r2.length = N) : h1 = h2 ∧ r1 = r2 := by
  have back : ∀ {h r : List Nat}, (∀ i, ex h r i = e i) → h.length + r.length = N → ∀ x, e (N + x) = e (h.length + x) := by
    intro h r he hl x
    rw [← he, ← he, show N + x = (h.length + x) + r.length by omega, ex_per (by omega)]
  have eh : h1.length = h2.length := v.dist _ _ (by omega) (by omega) fun x => by rw [← back e1 l1, back e2 l2]
  have er : r1.length = r2.length := by omega
  constructor
  · refine List.ext_getElem? fun i => ?_
    by_cases c : i < h1.length
    · have a := e1 i
      have b := e2 i
      rw [ex_head c] at a
      rw [ex_head (by omega)] at b
      rw [List.getD_eq_getElem?_getD, List.getElem?_eq_getElem c] at a
      rw [List.getD_eq_getElem?_getD, List.getElem?_eq_getElem (by omega)] at b
      rw [List.getElem?_eq_getElem c, List.getElem?_eq_getElem (by omega)]
      exact congrArg some (a.trans b.symm)
    · rw [List.getElem?_eq_none (by omega), List.getElem?_eq_none (by omega)]
  · refine List.ext_getElem? fun i => ?_
    by_cases c : i < r1.length
    · have a := e1 (h1.length + i)
      have b := e2 (h2.length + i)
      rw [ex_add, Nat.mod_eq_of_lt c] at a
      rw [ex_add, Nat.mod_eq_of_lt (by omega)] at b
      rw [List.getD_eq_getElem?_getD, List.getElem?_eq_getElem c] at a
      rw [List.getD_eq_getElem?_getD, List.getElem?_eq_getElem (by omega)] at b
      rw [List.getElem?_eq_getElem c, List.getElem?_eq_getElem (by omega)]
      rw [eh] at a
      exact congrArg some (a.trans b.symm)
    · rw [List.getElem?_eq_none (by omega), List.getElem?_eq_none (by omega)]
/-- a ring that is turned -/
theorem rot_rd {r : List Nat} {k : Nat} (hk : k < r.length) (x : Nat) : rd (r.drop k ++ r.take k) x = rd r (k + x) := by
  have hl : (r.drop k ++ r.take k).length = r.length := by
    rw [List.length_append, List.length_drop, List.length_take]
    omega
  unfold rd
  rw [hl]
  have hm := Nat.mod_lt x (show 0 < r.length by omega)
  have e : (k + x) % r.length = (k + x % r.length) % r.length := by rw [Nat.add_mod_mod]
  rw [e]
  generalize x % r.length = y at hm
  rw [List.getD_eq_getElem?_getD, List.getD_eq_getElem?_getD]
  by_cases c : y < r.length - k
  · rw [List.getElem?_append_left (by rw [List.length_drop]; omega), List.getElem?_drop, Nat.mod_eq_of_lt (by omega)]
  · rw [List.getElem?_append_right (by rw [List.length_drop]; omega), List.length_drop, List.getElem?_take_of_lt (by omega)]
    have e2 : k + y = (y - (r.length - k)) + r.length := by omega
    rw [e2, Nat.add_mod_right, Nat.mod_eq_of_lt (by omega)]
theorem rpl_len' {r : List Nat} (m : Nat) : (List.replicate m r).flatten.length = r.length * m := by
  induction m with
  | zero => simp
  | succ m ih => rw [List.replicate_succ, List.flatten_cons, List.length_append, ih, Nat.mul_succ, Nat.add_comm]
theorem rpl_at' {r : List Nat} : ∀ (m j : Nat), j < r.length * m → (List.replicate m r).flatten[j]? = some (rd r j)
  | 0, j, h => by simp at h
  | m + 1, j, h => by
    rw [List.replicate_succ, List.flatten_cons]
    by_cases c : j < r.length
    · rw [List.getElem?_append_left c, List.getElem?_eq_getElem c]
      unfold rd
      rw [Nat.mod_eq_of_lt c, List.getD_eq_getElem?_getD, List.getElem?_eq_getElem c]
      rfl
    · rw [List.getElem?_append_right (by omega), rpl_at' m (j - r.length) (by rw [Nat.mul_succ] at h; omega)]
      congr 1
      have := rd_len (r := r) (j - r.length)
      rw [← this, show j - r.length + r.length = j by omega]
theorem rpl_rd {r : List Nat} {m : Nat} (hm : 0 < m) (hr : 0 < r.length) (x : Nat) : rd (List.replicate m r).flatten x = rd r x := by
  have hl := rpl_len' (r := r) m
  have pos : 0 < r.length * m := Nat.mul_pos hr hm
  have hx := Nat.mod_lt x pos
  show (List.replicate m r).flatten.getD (x % _) 0 = _
  rw [hl, List.getD_eq_getElem?_getD, rpl_at' m _ hx]
  show rd r (x % (r.length * m)) = rd r x
  rw [← rd_mod x, ← rd_mod (x % (r.length * m)), Nat.mod_mul_right_mod]
/-- the same text by a longer head, its ring turned and repeated -/
theorem ex_other {fa fb : List Nat} {moved copies : Nat} (hb : 0 < fb.length) (hc : 0 < copies) {t : List Nat} (ht : t.length = moved) (hat : ∀ j, j < moved → t[j]? = some (rd fb j)) (i : Nat) :
    ex (fa ++ t) (List.replicate copies (fb.drop (moved % fb.length) ++ fb.take (moved % fb.length))).flatten i = ex fa fb i := by
  have hm := Nat.mod_lt moved hb
  have hl : (fb.drop (moved % fb.length) ++ fb.take (moved % fb.length)).length = fb.length := by
    rw [List.length_append, List.length_drop, List.length_take]
    omega
  have hfa : (fa ++ t).length = fa.length + moved := by rw [List.length_append, ht]
  by_cases c : i < fa.length + moved
  · rw [ex_head (by omega)]
    by_cases c2 : i < fa.length
    · rw [ex_head c2, List.getD_eq_getElem?_getD, List.getElem?_append_left c2, ← List.getD_eq_getElem?_getD]
    · rw [ex_rd' (by omega), List.getD_eq_getElem?_getD, List.getElem?_append_right (by omega), hat _ (by omega)]
      rfl
  · rw [ex_rd' (by omega), ex_rd' (by omega), rpl_rd hc (by rw [hl]; exact hb), rot_rd hm, hfa]
    have e : i - fa.length = moved + (i - (fa.length + moved)) := by omega
    rw [e, ← rd_mod (moved % fb.length + _), ← rd_mod (moved + _), Nat.mod_add_mod]
end Ver
namespace Ver
open PySem PySem.Spec PyProof.Rows L2 Evl
theorem rf_alphabet {al h r : List Nat} {n : Nat} : (rndFs al h r n).lookup ("alphabet" : Str) = some (tx al) := by
  unfold rndFs
  rw [lookup_putF, if_neg (by decide +kernel), lookup_putF, if_neg (by decide +kernel), lookup_putF, if_neg (by decide +kernel), lookup_putF, if_pos rfl]
theorem rf_none {al h r : List Nat} {n : Nat} {m : Str} (h1 : ("variety" : Str) ≠ m) (h2 : ("ring" : Str) ≠ m) (h3 : ("head" : Str) ≠ m) (h4 : ("alphabet" : Str) ≠ m) : (rndFs al h r n).lookup m = none := by
  unfold rndFs
  rw [lookup_putF, if_neg (by simpa using h1.symm), lookup_putF, if_neg (by simpa using h2.symm), lookup_putF, if_neg (by simpa using h3.symm), lookup_putF, if_neg (by simpa using h4.symm)]
  rfl
/-- a Round at p: exactly these fields -/
def RndI (C : Addr) (H : Hp) (p : Addr) (al h r : List Nat) : Prop := ∃ dx, H p = some (.ins C dx (rndFs al h r (h.length + r.length)))
theorem RndI.mono {C : Addr} {H H' : Hp} {p : Addr} {al h r : List Nat} (g : RndI C H p al h r) (x : Ex H H') : RndI C H' p al h r := by
  obtain ⟨dx, h1⟩ := g
  exact ⟨dx, x _ _ h1⟩
theorem rnd_exact {C : Addr} {H : Hp} {p : Addr} {e : Nat → Nat} {N : Nat} {al a b : List Nat} (hR : RndAt C H p e N) (hl : RndAl C H p al) (hb : 0 < b.length) (hn : a.length + b.length = N) (he : ∀ i, ex a b i = e i) : RndI C H p al a b := by
  obtain ⟨dx, al1, h, r, i1, h2, h3, h4, _, _⟩ := hR.ex
  obtain ⟨dx2, h', r', n', i2⟩ := hl
  have e1 := Option.some.inj (i1.symm.trans i2)
  have e2 : rndFs al1 h r N = rndFs al h' r' n' := by
    injection e1
  have e3 := congrArg (fun l => List.lookup ("alphabet" : Str) l) e2
  simp only [rf_alphabet] at e3
  have e4 : al1 = al := SX.S_inj (V.str.inj (Option.some.inj e3))
  obtain ⟨q1, q2⟩ := rep_one hR.vty h4 he h3 hb h2 hn
  subst q1 q2 e4
  exact ⟨dx, by rw [h2]; exact i1⟩
theorem beg_drop {e : Nat → Nat} {n : Nat} (c : 0 < n) : (beg e n)[n - 1]? = some (e (n - 1)) := beg_at (by omega)
section
variable {P : Program} {w : World} {K : PySem.W.Frag} {mg : Str → Option Value} {base : Heap} {C_Round : Addr}
/-! ### Round.letter_of -/
def spLet (C : Addr) : Sp := fun vs H Q _ => ∃ (p : Addr) (e : Nat → Nat) (N n : Nat), vs = [.ref p, .int (n : Int)] ∧ RndAt C H p e N ∧ N ≤ 1000 ∧ RetV (tx [e n]) H Q
theorem let_ok {f : Addr} {fd : FuncData} (F : Fun K "letter_of" "Round.letter_of" s_Round_letter_of f fd) (T : Top K mg C_Round) : FnOk P w K mg base CX0 1 f fd ["self", "index"] (spLet C_Round) := by
  refine F.ok S_Round_letter_of (fun vs H Q E h => ?_) (fun cdv A outer s H vs Q E hr h => ?_)
  · obtain ⟨p, e, N, n, rfl, _⟩ := h
    rfl
  obtain ⟨p, e, N, n, rfl, hR, hN, q⟩ := h
  refine ⟨_, (pss_cons
    (ps_if (pt_cmpR op_lt (pv 1) (pe_callB call_len_str rfl T.z_len PySem.boot_len (pa_cons (pe_fld (pv 0) rfl) pa_nil)) (nomark _)) (pss_one
    (ps_ret (pe_ix ix_str (pe_fld (pv 0) rfl) (pv 1) (fun _ _ => rfl)))) pss_nil)
    (pss_one
    (ps_ret (pe_ix ix_str (pe_fld (pv 0) rfl) (pe_op op_mod (pe_op op_sub (pv 1) (pe_callB call_len_str rfl T.z_len PySem.boot_len (pa_cons (pe_fld (pv 0) rfl) pa_nil))) (pe_callB call_len_str rfl T.z_len PySem.boot_len (pa_cons (pe_fld (pv 0) rfl) pa_nil))) (fun _ _ => rfl))))), ?_⟩
  obtain ⟨dx, al, h, r, ip, hl, rp, same, _, _⟩ := hR.ex
  have cl := T.cl_Round
  have lh : ∀ {σ : L2.St} {H' : Hp}, Ex H H' → σ[0]? = some (some (.ref p)) → Ev (tCB (fun vs H Q => ∃ z : Str, vs = [.str z] ∧ z.length ≤ sizeLine ∧ Q (.int (z.length : Int)) H) (tCons (tFld K (tVar 0) "head") tNil)) σ H' (.int (h.length : Int)) := fun x hs => ev_lenS (l := h) (by omega) (ev_fld (ev_var hs) (x _ _ ip) cl T.n_Round_head rf_head)
  refine q_when (et_lt (ev_var rfl) (lh (Ex.refl H) rfl)) (fun hb H1 e1 => ?_) (fun hb H1 e1 => ?_)
  · have c : n < h.length := by
      have := of_decide_eq_true hb
      omega
    exact s_ret (v := tx [e n]) (ev_is (ev_ixS (c := h.getD n 0) (by omega) (take_getD c) (ev_fld (ev_var rfl) (e1 _ _ ip) cl T.n_Round_head rf_head) (ev_var rfl)) (by rw [← same n, ex_head c])) fun H2 e2 => q H2 (e1.trans e2)
  · have c : h.length ≤ n := by
      have := of_decide_eq_false hb
      omega
    have hm := Nat.mod_lt (n - h.length) rp
    exact s_ret (v := tx [e n]) (ev_is (ev_ixS (i := (n - h.length) % r.length) (c := r.getD ((n - h.length) % r.length) 0) (by omega) (take_getD hm) (ev_fld (ev_var rfl) (e1 _ _ ip) cl T.n_Round_ring rf_ring)
      (ev_is (ev_mod (j := (r.length : Int)) (by omega) (ev_sub (ev_var rfl) (lh e1 rfl)) (ev_lenS (l := r) (by omega) (ev_fld (ev_var rfl) (e1 _ _ ip) cl T.n_Round_ring rf_ring))) (by rw [Int.natCast_emod]; congr 2; omega))) (by rw [← same n, ex_ring c])) fun H2 e2 => q H2 (e1.trans e2)
theorem has_let (F : AtM K C_Round "letter_of" "Round.letter_of" s_Round_letter_of) (T : Top K mg C_Round) : HasM P w K mg base C_Round "letter_of" ["self", "index"] 1 (spLet C_Round) := by
  obtain ⟨f, fd, F, M⟩ := F.ex
  exact ⟨f, fd, let_ok F T, F.binds fun _ _ _ _ _ _ us hl => match us, hl with | [_, _], _ => rfl, M⟩
theorem sv_let {C p : Addr} {e : Nat → Nat} {N n : Nat} {H : Hp} (hR : RndAt C H p e N) (hN : N ≤ 1000) : ∀ H1, Ex H H1 → ∀ Q : VK, (∀ H2, Ex H1 H2 → Q (tx [e n]) H2) → spLet C (.ref p :: ([.int (n : Int)] ++ [])) H1 Q E0 := fun H1 e1 Q q => ⟨p, e, N, n, rfl, hR.mono e1, hN, q⟩
theorem sv_beg {C p : Addr} {e : Nat → Nat} {N n : Nat} {H : Hp} (hR : RndAt C H p e N) (hN : N ≤ 1000) (hn : n ≤ 25000) : ∀ H1, Ex H H1 → ∀ Q : VK, (∀ H2, Ex H1 H2 → Q (tx (beg e n)) H2) → spBeg C (.ref p :: ([.int (n : Int)] ++ [])) H1 Q E0 := fun H1 e1 Q q => ⟨p, e, N, n, rfl, hR.mono e1, hN, hn, q⟩
/-! ### Round.__eq__ -/
def spREq (C : Addr) : Sp := fun vs H Q _ => ∃ (p : Addr) (y : V) (al h r : List Nat), vs = [.ref p, y] ∧ RndI C H p al h r ∧
  ((∃ s, y = .str s ∧ RetV (.bl false) H Q) ∨ ∃ (t : Addr) (al2 h2 r2 : List Nat), y = .ref t ∧ RndI C H t al2 h2 r2 ∧ RetV (.bl (decide (al = al2) && (decide (h = h2) && decide (r = r2)))) H Q)
theorem has_req (F : AtM K C_Round "__eq__" "Round.__eq__" s_Round___eq__) (T : Top K mg C_Round) (G : EqC K C_Round) : HasM P w K mg base C_Round "__eq__" ["self", "other"] 1 (spREq C_Round) := by
  obtain ⟨f, fd, F, M⟩ := F.ex
  refine ⟨f, fd, F.ok S_Round___eq__ (fun vs H Q E h => ?_) (fun cdv A outer s H vs Q E hr h => ?_), F.binds fun _ _ _ _ _ _ us hl => match us, hl with | [_, _], _ => rfl, M⟩
  · obtain ⟨p, y, al, h, r, rfl, _⟩ := h
    rfl
  obtain ⟨p, y, al, h, r, rfl, ⟨dx, ip⟩, q⟩ := h
  refine ⟨_, (pss_one
    (ps_ret (pe_and (pe_callB call_isi rfl T.z_isinstance (by decide +kernel) (pa_cons (pv 1) (pa_cons (pe_glob (v := .ref C_Round) rfl T.c_Round rfl) pa_nil))) (pe_and (pe_cmpR op_eq (pe_fld (pv 0) rfl) (pe_fld (pv 1) rfl) (nomark _)) (pe_and (pe_cmpR op_eq (pe_fld (pv 0) rfl) (pe_fld (pv 1) rfl) (nomark _)) (pe_one (pe_cmpR op_eq (pe_fld (pv 0) rfl) (pe_fld (pv 1) rfl) (nomark _)))))))), ?_⟩
  have cl := T.cl_Round
  rcases q with ⟨s, rfl, q⟩ | ⟨t, al2, h2, r2, rfl, ⟨dy, it⟩, q⟩
  · exact s_ret (v := .bl false) (ev_is (ev_andV (b := false) (ev_cb (ea_cons (ev_var rfl) (ea_cons ev_c ea_nil)) (rc_isiCs G)) (fun z => nomatch z)) rfl) q
  · refine s_ret (ev_andV (a := true) (ev_cb (ea_cons (ev_var rfl) (ea_cons ev_c ea_nil)) (rc_isiC G cl it)) (fun _ => ev_andV (a := decide (al = al2)) (ev_is (ev_op (ev_fld (ev_var rfl) ip cl T.n_Round_alphabet rf_alphabet) (ev_fld (ev_var rfl) it cl T.n_Round_alphabet rf_alphabet) (rv_eq rfl)) (by rw [tx_dec]))
      (fun _ => ev_andV (a := decide (h = h2)) (b := decide (r = r2)) (ev_is (ev_op (ev_fld (ev_var rfl) ip cl T.n_Round_head rf_head) (ev_fld (ev_var rfl) it cl T.n_Round_head rf_head) (rv_eq rfl)) (by rw [tx_dec])) (fun _ => ev_is (ev_op (ev_fld (ev_var rfl) ip cl T.n_Round_ring rf_ring) (ev_fld (ev_var rfl) it cl T.n_Round_ring rf_ring) (rv_eq rfl)) (by rw [tx_dec]))))) q
/-- two Rounds held against each other -/
theorem ev_req {σ : L2.St} {H : Hp} {ta tb : TE} {C p t : Addr} {al h r al2 h2 r2 : List Nat} (ha : Ev ta σ H (.ref p)) (hb : Ev tb σ H (.ref t)) (i1 : RndI C H p al h r) (i2 : RndI C H t al2 h2 r2) : Ev (tOp (rOwn C (spREq C) E0) ta tb) σ H (.bl (decide (al = al2) && (decide (h = h2) && decide (r = r2)))) := by
  obtain ⟨dx, ip⟩ := id i1
  obtain ⟨dy, it⟩ := id i2
  exact ev_own ha hb ip (.inl ⟨t, dy, _, rfl, it⟩) fun H1 e Q q => ⟨p, _, al, h, r, rfl, i1.mono e, .inr ⟨t, al2, h2, r2, rfl, i2.mono e, q⟩⟩
theorem ev_reqS {σ : L2.St} {H : Hp} {ta tb : TE} {C p : Addr} {al h r : List Nat} {s : Str} (ha : Ev ta σ H (.ref p)) (hb : Ev tb σ H (.str s)) (i1 : RndI C H p al h r) : Ev (tOp (rOwn C (spREq C) E0) ta tb) σ H (.bl false) := by
  obtain ⟨dx, ip⟩ := id i1
  exact ev_own ha hb ip (.inr ⟨s, rfl⟩) fun H1 e Q q => ⟨p, _, al, h, r, rfl, i1.mono e, .inl ⟨s, rfl, q⟩⟩
/-! ### _law_told -/
def spTold : Sp := fun vs H Q _ => ∃ a b : Bool, vs = [.bl a, .bl b] ∧ RetV (.bl (decide (a = b))) H Q
theorem has_told (F : At K mg "_law_told" s__law_told) (T : Top K mg C_Round) : Has P w K mg base "_law_told" s__law_told ["actual", "due"] 1 spTold := by
  obtain ⟨f, fd, F, m⟩ := F.ex
  refine ⟨f, fd, F, F.ok S__law_told (fun vs H Q E h => ?_) (fun cdv A outer s H vs Q E hr h => ?_), F.binds fun _ _ _ _ _ _ us hl => match us, hl with | [_, _], _ => rfl, m, F.kp⟩
  · obtain ⟨a, b, rfl, _⟩ := h
    rfl
  obtain ⟨a, b, rfl, q⟩ := h
  refine ⟨_, (pss_one
    (ps_ret (pe_and (pe_callB call_isi rfl T.z_isinstance (by decide +kernel) (pa_cons (pv 0) (pa_cons (pe_bltn (v := .ty "bool") rfl T.z_bool (by decide +kernel) rfl) pa_nil))) (pe_one (pe_cmpR op_eq (pv 0) (pv 1) (nomark _)))))), ?_⟩
  exact s_ret (ev_is (ev_andV (a := true) (b := decide (a = b)) (ev_cb (ea_cons (ev_var rfl) (ea_cons ev_c ea_nil)) (fun H1 _ Q q => ⟨.bl a, .ty "bool", _, _, true, rfl, .ty "bool", .base (.bl a), kit_ty (by decide +kernel), q H1 (Ex.refl H1)⟩)) (fun _ => ev_is (ev_op (ev_var rfl) (ev_var rfl) (rv_eq rfl)) (by cases a <;> cases b <;> rfl))) rfl) q
theorem sv_told {a b : Bool} {H : Hp} : SpV spTold ([V.bl a, V.bl b] ++ []) H (.bl (decide (a = b))) := fun _ _ _ q _ => ⟨a, b, rfl, q⟩
/-! ### _law_has_form -/
def spHf (K : PySem.W.Frag) (C : Addr) : Sp := fun vs H Q _ => ∃ (p m : Addr) (al h r : List Nat), vs = [.ref p, tx al, .ref m] ∧ RndI C H p al h r ∧ SqL K H m [tx h, tx r] ∧ h.length ≤ 1000 ∧ r.length ≤ 1000 ∧ RetV (.bl true) H Q
theorem has_hf (F : At K mg "_law_has_form" s__law_has_form) (T : Top K mg C_Round) (h1 : Has P w K mg base "_law_whole" s__law_whole ["value"] 1 spWhole) : Has P w K mg base "_law_has_form" s__law_has_form ["actual", "abc", "form"] 2 (spHf K C_Round) := by
  obtain ⟨f, fd, F, m⟩ := F.ex
  obtain ⟨f1, fd1, _, G__law_whole, b__law_whole, m__law_whole, k__law_whole⟩ := h1
  refine ⟨f, fd, F, F.ok S__law_has_form (fun vs H Q E h => ?_) (fun cdv A outer s H vs Q E hr h => ?_), F.binds fun _ _ _ _ _ _ us hl => match us, hl with | [_, _, _], _ => rfl, m, F.kp⟩
  · obtain ⟨p, m, al, h, r, rfl, _⟩ := h
    rfl
  obtain ⟨p, m, al, h, r, rfl, ⟨dx, ip⟩, hm, l1, l2, q⟩ := h
  refine ⟨_, (pss_cons
    (ps_if (PW.pt (pw_or (pt_not (pt_val (pe_callB call_isi rfl T.z_isinstance (by decide +kernel) (pa_cons (pe_fld (pv 0) rfl) (pa_cons (pe_bltn (v := .ty "str") rfl T.z_str (by decide +kernel) rfl) pa_nil))))) (pw_or (pt_not (pt_val (pe_callB call_isi rfl T.z_isinstance (by decide +kernel) (pa_cons (pe_fld (pv 0) rfl) (pa_cons (pe_bltn (v := .ty "str") rfl T.z_str (by decide +kernel) rfl) pa_nil))))) (pw_or1 (pt_not (pt_val (pe_call G__law_whole (hr.mono (by decide)) rfl m__law_whole k__law_whole b__law_whole .nil pass0 (pa_cons (pe_fld (pv 0) rfl) pa_nil)))))))) (pss_one
    (ps_ret pe_bl)) pss_nil)
    (pss_cons
    (ps_if (PW.pt (pw_or (pt_cmpR op_ne (pe_fld (pv 0) rfl) (pv 1) (nomark _)) (pw_or1 (pt_cmpR op_ne (pe_fld (pv 0) rfl) (pe_op op_add (pe_callB call_len_str rfl T.z_len PySem.boot_len (pa_cons (pe_ix (r := rIxL K) ix_list (pv 2) pe_int (fun _ _ => rfl)) pa_nil)) (pe_callB call_len_str rfl T.z_len PySem.boot_len (pa_cons (pe_ix (r := rIxL K) ix_list (pv 2) pe_int (fun _ _ => rfl)) pa_nil))) (nomark _))))) (pss_one
    (ps_ret pe_bl)) pss_nil)
    (pss_one
    (ps_ret (pe_and (pe_cmpR op_eq (pe_fld (pv 0) rfl) (pe_ix (r := rIxL K) ix_list (pv 2) pe_int (fun _ _ => rfl)) (nomark _)) (pe_one (pe_cmpR op_eq (pe_fld (pv 0) rfl) (pe_ix (r := rIxL K) ix_list (pv 2) pe_int (fun _ _ => rfl)) (nomark _)))))))), ?_⟩
  have cl := T.cl_Round
  have kS : kitB "str" "str" = some true := by decide +kernel
  refine q_skip (et_is (et_or (et_not (et_test (ev_cb (ea_cons (ev_fld (ev_var rfl) ip cl T.n_Round_head rf_head) (ea_cons ev_c ea_nil)) (rc_isiS kS)))) (fun _ => et_or (et_not (et_test (ev_cb (ea_cons (ev_fld (ev_var rfl) ip cl T.n_Round_ring rf_ring) (ea_cons ev_c ea_nil)) (rc_isiS kS)))) (fun _ => et_not (et_test (ev_call (z := .bl true) (ea_cons (ev_fld (ev_var rfl) ip cl T.n_Round_variety rf_variety) ea_nil) (fun H3 e3 Q' q' E' => ⟨((h.length + r.length : Nat) : Int), rfl, q'⟩)))))) rfl) fun H1 e1 => ?_
  refine q_skip (et_is (et_or (et_neS (a := al) (b := al) (ev_fld (ev_var rfl) (e1 _ _ ip) cl T.n_Round_alphabet rf_alphabet) (ev_var rfl)) (fun _ => et_test (b := false) (ev_is (ev_op (ev_fld (ev_var rfl) (e1 _ _ ip) cl T.n_Round_variety rf_variety) (ev_is (ev_add (ev_lenS (l := h) (by omega) (ev_op (ev_var rfl) ev_c (rv_ixL (ex_l e1 hm) rfl))) (ev_lenS (l := r) (by omega) (ev_op (ev_var rfl) ev_c (rv_ixL (ex_l e1 hm) rfl)))) (w := .int ((h.length + r.length : Nat) : Int)) (by rw [Int.natCast_add])) (rv_ne rfl)) (by
    show V.bl (!decide (V.int ((h.length + r.length : Nat) : Int) = V.int ((h.length + r.length : Nat) : Int))) = V.bl false
    rw [decide_eq_true rfl]
    rfl)))) (by rw [decide_eq_true rfl]; rfl)) fun H2 e2 => ?_
  have e12 := e1.trans e2
  exact s_ret (ev_is (ev_andV (a := true) (b := true) (ev_is (ev_op (ev_fld (ev_var rfl) (e12 _ _ ip) cl T.n_Round_head rf_head) (ev_op (ev_var rfl) ev_c (rv_ixL (ex_l e12 hm) rfl)) (rv_eq rfl)) (by rw [tx_dec, decide_eq_true rfl])) (fun _ => ev_is (ev_op (ev_fld (ev_var rfl) (e12 _ _ ip) cl T.n_Round_ring rf_ring) (ev_op (ev_var rfl) ev_c (rv_ixL (ex_l e12 hm) rfl)) (rv_eq rfl)) (by rw [tx_dec, decide_eq_true rfl]))) rfl) fun H3 e3 => q H3 (e12.trans e3)
theorem sv_hf {C p m : Addr} {al h r : List Nat} {H : Hp} (i : RndI C H p al h r) (hm : SqL K H m [tx h, tx r]) (l1 : h.length ≤ 1000) (l2 : r.length ≤ 1000) : SpV (spHf K C) ([V.ref p, tx al, V.ref m] ++ []) H (.bl true) := fun _ x _ q _ => ⟨p, m, al, h, r, rfl, i.mono x, ex_l x hm, l1, l2, q⟩
end
end Ver
namespace Ver
open PySem PySem.Spec PyProof.Rows L2 Evl
open PySem.Builtin PySem.Builtin.Str
/-! ### strip, exactly enough -/
def inL (m : List Nat) (c : Nat) : Bool := decide (c ∈ m)
theorem goes_is (m : List Nat) : (SX.S m).cps.contains = inL m := by
  funext c
  unfold inL
  show (m.toArray).contains c = _
  simp
theorem drop_take {p : Nat → Bool} (l : List Nat) : l.drop (l.takeWhile p).length = l.dropWhile p := by
  induction l with
  | nil => rfl
  | cons a r ih =>
    rw [List.takeWhile_cons, List.dropWhile_cons]
    cases p a
    · rfl
    · exact ih
theorem tw_all {p : Nat → Bool} : ∀ (l : List Nat) (c : Nat), c ∈ l.takeWhile p → p c = true
  | [], c, h => by cases h
  | a :: r, c, h => by
    rw [List.takeWhile_cons] at h
    cases q : p a with
    | false =>
      rw [q] at h
      cases h
    | true =>
      rw [q] at h
      rcases List.mem_cons.mp h with rfl | h
      · exact q
      · exact tw_all r c h
theorem dw_head {p : Nat → Bool} : ∀ (l : List Nat) (a : Nat) (r : List Nat), l.dropWhile p = a :: r → p a = false
  | [], a, r, h => by cases h
  | b :: l, a, r, h => by
    rw [List.dropWhile_cons] at h
    cases q : p b with
    | false =>
      rw [q] at h
      cases h
      exact q
    | true =>
      rw [q] at h
      exact dw_head l a r h
theorem strSub_S (l : List Nat) (a b : Nat) : strSub (SX.S l) a b = SX.S ((l.take b).drop a) := by
  unfold strSub
  rw [← SX.S_tl ((⟨(SX.S l).cps.extract a b⟩ : Str))]
  congr 1
  show (l.toArray.extract a b).toList = _
  simp [List.extract_eq_drop_take, List.drop_take]
theorem lstrip_is (l m : List Nat) : Txt.lstripChars (SX.S l) (SX.S m) = SX.S (l.dropWhile (inL m)) := by
  unfold Txt.lstripChars
  rw [goes_is]
  unfold Txt.stripBy stripSame stripped
  have hlo : stripLo (inL m) true (SX.S l) = (l.takeWhile (inL m)).length := by
    unfold stripLo
    rw [if_pos rfl]
  have hhi : ∀ k, stripHi (inL m) false (SX.S l) k = l.length := fun k => by
    unfold stripHi
    rw [if_neg (by decide), SX.S_len]
  rw [hlo, hhi, SX.S_len, strSub_S, List.take_length, drop_take]
  by_cases c : (l.takeWhile (inL m)).length = 0
  · rw [if_pos (by rw [c]; simp)]
    have e := List.takeWhile_append_dropWhile (p := inL m) (l := l)
    rw [List.length_eq_zero_iff.mp c, List.nil_append] at e
    rw [e]
  · rw [if_neg (by simp; intro h; exact absurd (List.length_eq_zero_iff.mpr h) (by simpa using c))]
theorem strip_some {l m : List Nat} (h : ∃ c ∈ l, c ∉ m) : Txt.stripChars (SX.S l) (SX.S m) ≠ SX.S [] := by
  obtain ⟨c, hc, hm⟩ := h
  unfold Txt.stripChars
  rw [goes_is]
  unfold Txt.stripBy stripSame stripped
  have hlo : stripLo (inL m) true (SX.S l) = (l.takeWhile (inL m)).length := by
    unfold stripLo
    rw [if_pos rfl]
  rw [hlo]
  have e := List.takeWhile_append_dropWhile (p := inL m) (l := l)
  have hd : ∃ a r, l.dropWhile (inL m) = a :: r ∧ inL m a = false := by
    cases hq : l.dropWhile (inL m) with
    | nil =>
      rw [hq, List.append_nil] at e
      have : c ∈ l.takeWhile (inL m) := by rw [e]; exact hc
      exact absurd (of_decide_eq_true (tw_all l c this)) hm
    | cons a r =>
      refine ⟨a, r, rfl, ?_⟩
      exact dw_head l a r hq
  obtain ⟨a, r, hq, ha⟩ := hd
  have hlen : (l.takeWhile (inL m)).length + (r.length + 1) = l.length := by
    have := congrArg List.length e
    rw [List.length_append, hq, List.length_cons] at this
    omega
  have hhi : stripHi (inL m) true (SX.S l) (l.takeWhile (inL m)).length = l.length - ((a :: r).reverse.takeWhile (inL m)).length := by
    unfold stripHi
    rw [if_pos rfl, SX.S_len]
    show l.length - ((l.drop _).reverse.takeWhile _).length = _
    rw [drop_take, hq]
  have hlt : ((a :: r).reverse.takeWhile (inL m)).length ≤ r.length := by
    rw [List.reverse_cons, List.takeWhile_append]
    split
    · rw [List.takeWhile_cons, if_neg (by rw [ha]; decide), List.append_nil, List.length_reverse]
      exact Nat.le_refl _
    · have := (List.takeWhile_sublist (p := inL m) (l := r.reverse)).length_le
      rw [List.length_reverse] at this
      exact this
  rw [hhi]
  split
  · intro z
    have z2 := SX.S_inj z
    rw [z2] at hc
    cases hc
  · rw [strSub_S]
    intro z
    have z2 := congrArg List.length (SX.S_inj z)
    rw [List.length_drop, List.length_take, List.length_nil] at z2
    omega
theorem asc_of : ∀ l : List Nat, (∀ i, i + 1 < l.length → l.getD i 0 < l.getD (i + 1) 0) → l.Pairwise (· < ·)
  | [], _ => .nil
  | [a], _ => by simp
  | a :: b :: r, h => by
    have ih := asc_of (b :: r) fun i hi => h (i + 1) (by simpa using hi)
    have h0 : a < b := h 0 (by simp)
    refine .cons (fun c hc => ?_) ih
    rcases List.mem_cons.mp hc with rfl | hc
    · exact h0
    · exact Nat.lt_trans h0 ((List.pairwise_cons.mp ih).1 c hc)
/-- the first letter that is none of al stands at k -/
def bad1 (al v : List Nat) (k : Nat) : Prop := k = (v.takeWhile (inL al)).length ∧ k < v.length
theorem bad1_rest {al v : List Nat} {k : Nat} (h : bad1 al v k) : (v.dropWhile (inL al)).length = v.length - k ∧ v.dropWhile (inL al) ≠ [] := by
  obtain ⟨rfl, hk⟩ := h
  have e := List.takeWhile_append_dropWhile (p := inL al) (l := v)
  have := congrArg List.length e
  rw [List.length_append] at this
  refine ⟨by omega, fun z => ?_⟩
  rw [z] at this
  simp at this
  omega
theorem bad1_mk {al a b : List Nat} {c : Nat} (ha : ∀ x ∈ a, x ∈ al) (hc : c ∉ al) : bad1 al (a ++ c :: b) a.length := by
  have : (a ++ c :: b).takeWhile (inL al) = a := by
    rw [List.takeWhile_append_of_pos (p := inL al) fun x hx => decide_eq_true (ha x hx), List.takeWhile_cons, if_neg (by unfold inL; simpa using hc), List.append_nil]
  exact ⟨by rw [this], by simp⟩
end Ver
namespace Ver
open PySem PySem.Spec PyProof.Rows L2 Evl
abbrev ivn (n : Nat) : V := V.int (n : Int)
theorem q_ifTwo {σ : L2.St} {H : Hp} {D : Ends} {tz : TS} {t : TT} {te te' : TE} {b : Bool} {i : Nat} {v : V} (h : EvT t σ H b) (h1 : b = true → ∀ H1, Ex H H1 → Ev te σ H1 v) (h2 : b = false → ∀ H1, Ex H H1 → Ev te' σ H1 v) (k : ∀ H1, Ex H H1 → tz D (σ.set i (some v)) H1) :
    tSeq (tIfS t (tAsg te (gName i)) (tAsg te' (gName i))) tz D σ H :=
  q_if h (fun hb H1 e1 => s_asg (h1 hb H1 e1) fun H2 e2 => k H2 (e1.trans e2)) fun hb H1 e1 => s_asg (h2 hb H1 e1) fun H2 e2 => k H2 (e1.trans e2)
section
variable {P : Program} {w : World} {K : PySem.W.Frag} {mg : Str → Option Value} {base : Heap} {C_Round : Addr}
/-! ### _law_reads -/
def spReads (K : PySem.W.Frag) (C : Addr) : Sp := fun vs H Q _ => ∃ (p a b c : Addr) (h r : List Nat) (N : Nat) (ns ls : List Nat), vs = [.ref p, .ref a, .ref b, .ref c] ∧ RndAt C H p (ex h r) N ∧ N ≤ 1000 ∧ SqL K H a [tx h, tx r] ∧ 0 < r.length ∧ r.length ≤ 1000 ∧ h.length ≤ 1000 ∧
  SqL K H b (ns.map ivn) ∧ SqL K H c (ls.map ivn) ∧ (∀ n ∈ ls, n ≤ 25000) ∧ RetV (.bl true) H Q
theorem has_reads (F : At K mg "_law_reads" s__law_reads) (T : Top K mg C_Round) (h1 : HasM P w K mg base C_Round "letter_of" ["self", "index"] 1 (spLet C_Round)) (h2 : HasM P w K mg base C_Round "beginning" ["self", "length"] 1 (spBeg C_Round)) (h3 : Has P w K mg base "_law_beginning" s__law_beginning ["front", "circle", "span"] 1 spLb) :
    Has P w K mg base "_law_reads" s__law_reads ["actual", "made", "indexes", "lengths"] 2 (spReads K C_Round) := by
  obtain ⟨f, fd, F, m⟩ := F.ex
  obtain ⟨f1, fd1, G_Round_letter_of, b_Round_letter_of, M_Round_letter_of⟩ := h1
  obtain ⟨f2, fd2, G_Round_beginning, b_Round_beginning, M_Round_beginning⟩ := h2
  obtain ⟨f3, fd3, _, G__law_beginning, b__law_beginning, m__law_beginning, k__law_beginning⟩ := h3
  refine ⟨f, fd, F, F.ok S__law_reads (fun vs H Q E h => ?_) (fun cdv A outer s H vs Q E hr h => ?_), F.binds fun _ _ _ _ _ _ us hl => match us, hl with | [_, _, _, _], _ => rfl, m, F.kp⟩
  · obtain ⟨p, a, b, c, h, r, N, ns, ls, rfl, _⟩ := h
    rfl
  obtain ⟨p, a, b, c, h, r, N, ns, ls, rfl, hR, hN, hm, rp, r2, l2, hns, hls, hlb, q⟩ := h
  refine ⟨_, (pss_cons
    (ps_for PassesOwn.never rfl (pi_list (pv 2)) (pg_name (i := 4) S__law_reads.nd rfl (Or.inl rfl)) (pss_cons
    (ps_if (pt_cmpR op_lt (pv 4) (pe_callB call_len_str rfl T.z_len PySem.boot_len (pa_cons (pe_ix (r := rIxL K) ix_list (pv 1) pe_int (fun _ _ => rfl)) pa_nil)) (nomark _)) (pss_one
    (ps_set (i := 5) S__law_reads.nd rfl (Or.inl rfl) (pe_ix ix_str (pe_ix (r := rIxL K) ix_list (pv 1) pe_int (fun _ _ => rfl)) (pv 4) (fun _ _ => rfl)))) (pss_one
    (ps_set (i := 5) S__law_reads.nd rfl (Or.inl rfl) (pe_ix ix_str (pe_ix (r := rIxL K) ix_list (pv 1) pe_int (fun _ _ => rfl)) (pe_op op_mod (pe_callTy call_int1 rfl T.z_int (by decide +kernel) (pa_cons (pe_op op_sub (pv 4) (pe_callB call_len_str rfl T.z_len PySem.boot_len (pa_cons (pe_ix (r := rIxL K) ix_list (pv 1) pe_int (fun _ _ => rfl)) pa_nil))) pa_nil)) (pe_callB call_len_str rfl T.z_len PySem.boot_len (pa_cons (pe_ix (r := rIxL K) ix_list (pv 1) pe_int (fun _ _ => rfl)) pa_nil))) (fun _ _ => rfl)))))
    (pss_one
    (ps_if (pt_cmpR op_ne (pe_meth (pv 0) T.cl_Round M_Round_letter_of G_Round_letter_of (hr.mono (by decide)) b_Round_letter_of .nil pass0 (pa_cons (pv 4) pa_nil)) (pv 5) (nomark _)) (pss_one
    (ps_ret pe_bl)) pss_nil))))
    (pss_cons
    (ps_for PassesOwn.never rfl (pi_list (pv 3)) (pg_name (i := 6) S__law_reads.nd rfl (Or.inl rfl)) (pss_one
    (ps_if (pt_cmpR op_ne (pe_meth (pv 0) T.cl_Round M_Round_beginning G_Round_beginning (hr.mono (by decide)) b_Round_beginning .nil pass0 (pa_cons (pv 6) pa_nil)) (pe_call G__law_beginning (hr.mono (by decide)) rfl m__law_beginning k__law_beginning b__law_beginning .nil pass0 (pa_cons (pe_ix (r := rIxL K) ix_list (pv 1) pe_int (fun _ _ => rfl)) (pa_cons (pe_ix (r := rIxL K) ix_list (pv 1) pe_int (fun _ _ => rfl)) (pa_cons (pv 6) pa_nil)))) (nomark _)) (pss_one
    (ps_ret pe_bl)) pss_nil)))
    (pss_one
    (ps_ret pe_bl)))), ?_⟩
  obtain ⟨dx, al, h', r', ip, _⟩ := hR.ex
  have m0 : ∀ {σ : L2.St} {H' : Hp}, Ex H H' → σ[1]? = some (some (.ref a)) → Ev (tOp (rIxL K) (tVar 1) (tC (.int 0))) σ H' (tx h) := fun e hs => ev_op (ev_var hs) ev_c (rv_ixL (ex_l e hm) rfl)
  have m1 : ∀ {σ : L2.St} {H' : Hp}, Ex H H' → σ[1]? = some (some (.ref a)) → Ev (tOp (rIxL K) (tVar 1) (tC (.int 1))) σ H' (tx r) := fun e hs => ev_op (ev_var hs) ev_c (rv_ixL (ex_l e hm) rfl)
  refine q_forLn (ev_var rfl) hns (fun i σ' H' => (∃ u4 u5, σ' = [some (.ref p), some (.ref a), some (.ref b), some (.ref c), u4, u5, none]) ∧ Ex H H') (fun H1 e1 => ⟨⟨_, _, rfl⟩, e1⟩) (fun i σ' H' _ z => ex_l z.2 hns) (fun i x σ' H' hx z => ?_) (fun σ' H' z => ?_)
  · obtain ⟨⟨u4, u5, rfl⟩, e1⟩ := z
    rw [List.getElem?_map, Option.map_eq_some_iff] at hx
    obtain ⟨n, _, rfl⟩ := hx
    refine q_ifTwo (v := tx [ex h r n]) (et_lt (ev_var rfl) (ev_lenS (l := h) (by omega) (m0 e1 rfl))) (fun hb H2 e2 => ?_) (fun hb H2 e2 => ?_) fun H2 e2 => ?_
    · have cc : n < h.length := by
        have := of_decide_eq_true hb
        omega
      exact ev_is (ev_ixS (c := h.getD n 0) (by omega) (take_getD cc) (m0 (e1.trans e2) rfl) (ev_var rfl)) (by rw [ex_head cc])
    · have cc : h.length ≤ n := by
        have := of_decide_eq_false hb
        omega
      have hmd := Nat.mod_lt (n - h.length) rp
      exact ev_is (ev_ixS (i := (n - h.length) % r.length) (c := r.getD ((n - h.length) % r.length) 0) (by omega) (take_getD hmd) (m1 (e1.trans e2) rfl)
        (ev_is (ev_mod (j := (r.length : Int)) (by omega) (ev_int (ev_sub (ev_var rfl) (ev_lenS (l := h) (by omega) (m0 (e1.trans e2) rfl)))) (ev_lenS (l := r) (by omega) (m1 (e1.trans e2) rfl))) (by rw [Int.natCast_emod]; congr 2; omega))) (by rw [ex_ring cc])
    · have e12 := e1.trans e2
      refine s_skip (et_is (et_neS (a := [ex h r n]) (b := [ex h r n]) (ev_meth (ev_var rfl) (e12 _ _ ip) (rf_none (by decide) (by decide) (by decide) (by decide)) (ea_cons (ev_var rfl) ea_nil) (sv_let (hR.mono e12) hN)) (ev_var rfl)) (by rw [decide_eq_true rfl]; rfl)) fun H3 e3 => ?_
      exact ⟨⟨_, _, rfl⟩, e12.trans e3⟩
  · obtain ⟨⟨u4, u5, rfl⟩, e1⟩ := z
    refine q_forLn (ev_var rfl) (ex_l e1 hls) (fun i σ' H' => (∃ u6, σ' = [some (.ref p), some (.ref a), some (.ref b), some (.ref c), u4, u5, u6]) ∧ Ex H H') (fun H2 e2 => ⟨⟨_, rfl⟩, e1.trans e2⟩) (fun i σ' H' _ z => ex_l z.2 hls) (fun i x σ' H' hx z => ?_) (fun σ' H' z => ?_)
    · obtain ⟨⟨u6, rfl⟩, e2⟩ := z
      rw [List.getElem?_map, Option.map_eq_some_iff] at hx
      obtain ⟨n, hn, rfl⟩ := hx
      have hn2 := hlb n (List.mem_of_getElem? hn)
      refine s_skip (et_is (et_neS (a := beg (ex h r) n) (b := beg (ex h r) n) (ev_meth (ev_var rfl) (e2 _ _ ip) (rf_none (by decide) (by decide) (by decide) (by decide)) (ea_cons (ev_var rfl) ea_nil) (sv_beg (hR.mono e2) hN hn2)) (ev_call (ea_cons (m0 e2 rfl) (ea_cons (m1 e2 rfl) (ea_cons (ev_var rfl) ea_nil))) (sv_lb rp r2 l2 hn2))) (by rw [decide_eq_true rfl]; rfl)) fun H3 e3 => ?_
      exact ⟨⟨_, rfl⟩, e2.trans e3⟩
    · obtain ⟨⟨u6, rfl⟩, e2⟩ := z
      exact s_ret ev_c fun H3 e3 => q H3 (e2.trans e3)
theorem sv_reads {C p a b c : Addr} {h r : List Nat} {N : Nat} {ns ls : List Nat} {H : Hp} (hR : RndAt C H p (ex h r) N) (hN : N ≤ 1000) (hm : SqL K H a [tx h, tx r]) (rp : 0 < r.length) (r2 : r.length ≤ 1000) (l2 : h.length ≤ 1000) (hb : SqL K H b (ns.map ivn)) (hc : SqL K H c (ls.map ivn)) (hl : ∀ n ∈ ls, n ≤ 25000) :
    SpV (spReads K C) ([V.ref p, V.ref a, V.ref b, V.ref c] ++ []) H (.bl true) := fun _ x _ q _ => ⟨p, a, b, c, h, r, N, ns, ls, rfl, hR.mono x, hN, ex_l x hm, rp, r2, l2, ex_l x hb, ex_l x hc, hl, q⟩
/-! ### _law_other -/
def spOth (K : PySem.W.Frag) : Sp := fun vs H Q _ => ∃ (a b : Addr) (al h r : List Nat) (z : List Int), vs = [.ref a, .ref b] ∧ SqL K H a [tx h, tx r] ∧ SqL K H b (z.map V.int) ∧ z.length = 2 ∧ Onl al h ∧ Onl al r ∧ 0 < r.length ∧ r.length ≤ 60 ∧ h.length ≤ 60 ∧
  ∀ h2 r2 : List Nat, (∀ i, ex h2 r2 i = ex h r i) → Onl al h2 → Onl al r2 → 0 < r2.length → r2.length ≤ 60 → h2.length ≤ 60 → RetL [tx h2, tx r2] H Q
theorem has_oth (F : At K mg "_law_other" s__law_other) (T : Top K mg C_Round) : Has P w K mg base "_law_other" s__law_other ["form", "row"] 1 (spOth K) := by
  obtain ⟨f, fd, F, m⟩ := F.ex
  refine ⟨f, fd, F, F.ok S__law_other (fun vs H Q E h => ?_) (fun cdv A outer s H vs Q E hr h => ?_), F.binds fun _ _ _ _ _ _ us hl => match us, hl with | [_, _], _ => rfl, m, F.kp⟩
  · obtain ⟨a, b, al, h, r, z, rfl, _⟩ := h
    rfl
  obtain ⟨a, b, al, h, r, z, rfl, hm, hz, z2, oh, or', rp, r6, l6, q⟩ := h
  refine ⟨_, (pss_cons
    (ps_set (i := 2) S__law_other.nd rfl (Or.inl rfl) (pe_op op_mod (pe_callTy call_int1 rfl T.z_int (by decide +kernel) (pa_cons (pe_ix (r := rIxL K) ix_list (pv 1) pe_int (fun _ _ => rfl)) pa_nil)) (pe_op op_sub pe_int (pe_callB call_len_str rfl T.z_len PySem.boot_len (pa_cons (pe_ix (r := rIxL K) ix_list (pv 0) pe_int (fun _ _ => rfl)) pa_nil)))))
    (pss_cons
    (ps_set (i := 3) S__law_other.nd rfl (Or.inl rfl) (pe_op op_mod (pe_callTy call_int1 rfl T.z_int (by decide +kernel) (pa_cons (pv 2) pa_nil)) (pe_callB call_len_str rfl T.z_len PySem.boot_len (pa_cons (pe_ix (r := rIxL K) ix_list (pv 0) pe_int (fun _ _ => rfl)) pa_nil))))
    (pss_cons
    (ps_set (i := 4) S__law_other.nd rfl (Or.inl rfl) (pe_op op_add pe_int (pe_op op_mod (pe_callTy call_int1 rfl T.z_int (by decide +kernel) (pa_cons (pe_ix (r := rIxL K) ix_list (pv 1) pe_int (fun _ _ => rfl)) pa_nil)) (pe_op op_fdivW pe_int (pe_callB call_len_str rfl T.z_len PySem.boot_len (pa_cons (pe_ix (r := rIxL K) ix_list (pv 0) pe_int (fun _ _ => rfl)) pa_nil))))))
    (pss_one
    (ps_ret (pe_lst (pa_cons (pe_op op_add_str (pe_ix (r := rIxL K) ix_list (pv 0) pe_int (fun _ _ => rfl)) (pe_slice sl_str (pe_op op_mulS (pe_ix (r := rIxL K) ix_list (pv 0) pe_int (fun _ _ => rfl)) pe_int) po_none (po_some (pv 2)))) (pa_cons (pe_op op_mulS (pe_op op_add_str (pe_slice sl_str (pe_ix (r := rIxL K) ix_list (pv 0) pe_int (fun _ _ => rfl)) (po_some (pv 3)) po_none) (pe_slice sl_str (pe_ix (r := rIxL K) ix_list (pv 0) pe_int (fun _ _ => rfl)) po_none (po_some (pv 3)))) (pv 4)) pa_nil)))))))), ?_⟩
  have m0 : ∀ {σ : L2.St} {H' : Hp}, Ex H H' → σ[0]? = some (some (.ref a)) → Ev (tOp (rIxL K) (tVar 0) (tC (.int 0))) σ H' (tx h) := fun e hs => ev_op (ev_var hs) ev_c (rv_ixL (ex_l e hm) rfl)
  have m1 : ∀ {σ : L2.St} {H' : Hp}, Ex H H' → σ[0]? = some (some (.ref a)) → Ev (tOp (rIxL K) (tVar 0) (tC (.int 1))) σ H' (tx r) := fun e hs => ev_op (ev_var hs) ev_c (rv_ixL (ex_l e hm) rfl)
  obtain ⟨mv, hmv, emv⟩ := int_mod (x := at0 z 0) (n := 61 - h.length) (by omega)
  refine q_asg (v := .int (mv : Int)) (ev_is (ev_mod (j := ((61 - h.length : Nat) : Int)) (by omega) (ev_int (ev_atI (i := 0) hz (by omega) rfl (ev_var rfl) ev_c)) (ev_is (ev_sub ev_c (ev_lenS (l := h) (by omega) (m0 (Ex.refl H) rfl))) (by congr 1; omega))) (by rw [emv])) fun H1 e1 => ?_
  have htn := Nat.mod_lt mv rp
  refine q_asg (v := .int ((mv % r.length : Nat) : Int)) (ev_is (ev_mod (j := (r.length : Int)) (by omega) (ev_int (ev_var rfl)) (ev_lenS (l := r) (by omega) (m1 e1 rfl))) (by rw [Int.natCast_emod])) fun H2 e2 => ?_
  have e12 := e1.trans e2
  have hd : 0 < 60 / r.length := Nat.div_pos r6 rp
  have hd2 : r.length * (60 / r.length) ≤ 60 := Nat.mul_div_le 60 r.length
  obtain ⟨cp, hcp, ecp⟩ := int_mod (x := at0 z 1) (n := 60 / r.length) hd
  have hcl : r.length * (1 + cp) ≤ 60 := Nat.le_trans (Nat.mul_le_mul_left _ (show 1 + cp ≤ 60 / r.length by omega)) hd2
  have hc100 : 1 + cp ≤ 60 := Nat.le_trans (Nat.le_mul_of_pos_left _ rp) hcl
  refine q_asg (v := .int ((1 + cp : Nat) : Int)) (ev_is (ev_add ev_c (ev_is (ev_mod (j := ((60 / r.length : Nat) : Int)) (by exact_mod_cast hd) (ev_int (ev_atI (i := 1) (ex_l e12 hz) (by omega) rfl (ev_var rfl) ev_c)) (ev_is (ev_div (j := (r.length : Int)) (by omega) (by omega) ev_c (ev_lenS (l := r) (by omega) (m1 e12 rfl))) (by rw [Int.natCast_ediv]; rfl))) (w := .int (cp : Int)) (by rw [ecp]))) (by rw [Int.natCast_add]; rfl)) fun H3 e3 => ?_
  have e13 := e12.trans e3
  have hrp : (List.replicate 60 r).flatten.length = r.length * 60 := rpl_len' 60
  have hge : 60 ≤ r.length * 60 := Nat.le_mul_of_pos_left _ rp
  have lt : ((List.replicate 60 r).flatten.take mv).length = mv := by
    rw [List.length_take]
    omega
  have lr : (r.drop (mv % r.length) ++ r.take (mv % r.length)).length = r.length := by
    rw [List.length_append, List.length_drop, List.length_take]
    omega
  have lc : (List.replicate (1 + cp) (r.drop (mv % r.length) ++ r.take (mv % r.length))).flatten.length = r.length * (1 + cp) := by
    rw [rpl_len', lr]
  refine s_retL (xs := [tx (h ++ (List.replicate 60 r).flatten.take mv), tx (List.replicate (1 + cp) (r.drop (mv % r.length) ++ r.take (mv % r.length))).flatten]) (el_lst (ea_cons (ev_catS (by rw [lt]; omega) (m0 e13 rfl) (ev_is (ev_slS (l := (List.replicate 60 r).flatten) (by omega) (ev_mulS (n := 60) (by decide) (by omega) (m1 e13 rfl) ev_c) eo_none (eo_some (i := (mv : Int)) (ev_var rfl))) (by rw [cutL_to])))
    (ea_cons (ev_mulS (n := 1 + cp) (by omega) (by rw [lr]; omega) (ev_catS (a := r.drop (mv % r.length)) (b := r.take (mv % r.length)) (by rw [List.length_drop, List.length_take]; omega) (ev_is (ev_slS (by omega) (m1 e13 rfl) (eo_some (i := ((mv % r.length : Nat) : Int)) (ev_var rfl)) eo_none) (by rw [cutL_from])) (ev_is (ev_slS (by omega) (m1 e13 rfl) eo_none (eo_some (i := ((mv % r.length : Nat) : Int)) (ev_var rfl))) (by rw [cutL_to]))) (ev_var rfl)) ea_nil)) (by show 2 ≤ 100000; decide)) fun l H4 hl e4 g4 => ?_
  have pos1 : 0 < r.length * (1 + cp) := Nat.mul_pos rp (by omega)
  exact q _ _ (ex_other rp (by omega) lt fun j hj => by rw [List.getElem?_take_of_lt hj, rpl_at' 60 j (by omega)]) (oh.app ((or'.rep 60).take mv)) (((or'.drop _).app (or'.take _)).rep _) (by rw [lc]; exact pos1) (by rw [lc]; exact hcl) (by rw [List.length_append, lt]; omega) l H4 (fresh_back e13 hl) (e13.trans e4) g4
/-! ### _law_near -/
def spNear (K : PySem.W.Frag) : Sp := fun vs H Q _ => ∃ (al : List Nat) (a b : Addr) (h v : List Nat) (r : List Int), vs = [tx al, .ref a, .ref b] ∧ Alf al ∧ SqL K H a [tx h, tx v] ∧ SqL K H b (r.map V.int) ∧ r.length = 3 ∧ Onl al h ∧ Onl al v ∧ h.length ≤ 60 ∧ 1 ≤ v.length ∧ v.length ≤ 60 ∧
  ∀ h2 v2 : List Nat, Onl al h2 → h2.length ≤ 60 → Onl al v2 → 1 ≤ v2.length → v2.length ≤ 60 → RetL [tx h2, tx v2] H Q
theorem has_near (F : At K mg "_law_near" s__law_near) (T : Top K mg C_Round) : Has P w K mg base "_law_near" s__law_near ["abc", "made", "row"] 1 (spNear K) := by
  obtain ⟨f, fd, F, m⟩ := F.ex
  refine ⟨f, fd, F, F.ok S__law_near (fun vs H Q E h => ?_) (fun cdv A outer s H vs Q E hr h => ?_), F.binds fun _ _ _ _ _ _ us hl => match us, hl with | [_, _, _], _ => rfl, m, F.kp⟩
  · obtain ⟨al, a, b, h, v, r, rfl, _⟩ := h
    rfl
  obtain ⟨al, a, b, h, v, r, rfl, hA, hS, hR, hl2, oh, ov, lh, l1, lv, q⟩ := h
  refine ⟨_, (pss_cons
    (ps_if (pt_cmpR op_eq (pe_ix (r := rIxL K) ix_list (pv 2) pe_int (fun _ _ => rfl)) pe_int (nomark _)) (pss_cons
    (ps_if (pt_cmpR op_eq (pe_ix (r := rIxL K) ix_list (pv 1) pe_int (fun _ _ => rfl)) pe_str (nomark _)) (pss_one
    (ps_ret (pe_lst (pa_cons pe_str (pa_cons (pe_op op_add_str (pe_slice sl_str (pe_ix (r := rIxL K) ix_list (pv 1) pe_int (fun _ _ => rfl)) (po_some pe_int) po_none) (pe_ix ix_str (pe_ix (r := rIxL K) ix_list (pv 1) pe_int (fun _ _ => rfl)) pe_int (fun _ _ => rfl))) pa_nil))))) pss_nil)
    (pss_one
    (ps_ret (pe_lst (pa_cons (pe_slice sl_str (pe_ix (r := rIxL K) ix_list (pv 1) pe_int (fun _ _ => rfl)) (po_some pe_int) po_none) (pa_cons (pe_ix (r := rIxL K) ix_list (pv 1) pe_int (fun _ _ => rfl)) pa_nil)))))) pss_nil)
    (pss_cons
    (ps_if (PW.pt (pw_and (pt_cmpR op_eq (pe_ix (r := rIxL K) ix_list (pv 2) pe_int (fun _ _ => rfl)) pe_int (nomark _)) (pw_and1 (pt_cmpR op_lt (pe_callB call_len_str rfl T.z_len PySem.boot_len (pa_cons (pe_ix (r := rIxL K) ix_list (pv 1) pe_int (fun _ _ => rfl)) pa_nil)) pe_int (nomark _))))) (pss_one
    (ps_ret (pe_lst (pa_cons (pe_ix (r := rIxL K) ix_list (pv 1) pe_int (fun _ _ => rfl)) (pa_cons (pe_op op_add_str (pe_ix (r := rIxL K) ix_list (pv 1) pe_int (fun _ _ => rfl)) (pe_ix ix_str (pe_ix (r := rIxL K) ix_list (pv 1) pe_int (fun _ _ => rfl)) pe_int (fun _ _ => rfl))) pa_nil))))) pss_nil)
    (pss_cons
    (ps_if (PW.pt (pw_and (pt_cmpR op_eq (pe_ix (r := rIxL K) ix_list (pv 2) pe_int (fun _ _ => rfl)) pe_int (nomark _)) (pw_and1 (pt_cmpR op_gt (pe_callB call_len_str rfl T.z_len PySem.boot_len (pa_cons (pe_ix (r := rIxL K) ix_list (pv 1) pe_int (fun _ _ => rfl)) pa_nil)) pe_int (nomark _))))) (pss_one
    (ps_ret (pe_lst (pa_cons (pe_ix (r := rIxL K) ix_list (pv 1) pe_int (fun _ _ => rfl)) (pa_cons (pe_slice sl_str (pe_ix (r := rIxL K) ix_list (pv 1) pe_int (fun _ _ => rfl)) po_none (po_some (pe_un un_neg pe_int))) pa_nil))))) pss_nil)
    (pss_cons
    (ps_set (i := 3) S__law_near.nd rfl (Or.inl rfl) (pe_op op_add_str (pe_ix (r := rIxL K) ix_list (pv 1) pe_int (fun _ _ => rfl)) (pe_ix (r := rIxL K) ix_list (pv 1) pe_int (fun _ _ => rfl))))
    (pss_cons
    (ps_set (i := 4) S__law_near.nd rfl (Or.inl rfl) (pe_op op_mod (pe_callTy call_int1 rfl T.z_int (by decide +kernel) (pa_cons (pe_ix (r := rIxL K) ix_list (pv 2) pe_int (fun _ _ => rfl)) pa_nil)) (pe_callB call_len_str rfl T.z_len PySem.boot_len (pa_cons (pv 3) pa_nil))))
    (pss_cons
    (ps_set (i := 5) S__law_near.nd rfl (Or.inl rfl) (pe_ix ix_str (pv 0) (pe_op op_mod (pe_callTy call_int1 rfl T.z_int (by decide +kernel) (pa_cons (pe_op op_add (pe_op op_add (pe_bm PySem.F.plainAttrs_str PySem.F.slot_str_index PySem.F.type_str_index mt_sindex (pv 0) (pa_cons (pe_ix ix_str (pv 3) (pv 4) (fun _ _ => rfl)) pa_nil)) pe_int) (pe_ix (r := rIxL K) ix_list (pv 2) pe_int (fun _ _ => rfl))) pa_nil)) (pe_callB call_len_str rfl T.z_len PySem.boot_len (pa_cons (pv 0) pa_nil))) (fun _ _ => rfl)))
    (pss_cons
    (ps_set (i := 3) S__law_near.nd rfl (Or.inl rfl) (pe_op op_add_str (pe_op op_add_str (pe_slice sl_str (pv 3) po_none (po_some (pv 4))) (pv 5)) (pe_slice sl_str (pv 3) (po_some (pe_op op_add (pv 4) pe_int)) po_none)))
    (pss_one
    (ps_ret (pe_lst (pa_cons (pe_slice sl_str (pv 3) po_none (po_some (pe_callB call_len_str rfl T.z_len PySem.boot_len (pa_cons (pe_ix (r := rIxL K) ix_list (pv 1) pe_int (fun _ _ => rfl)) pa_nil)))) (pa_cons (pe_slice sl_str (pv 3) (po_some (pe_callB call_len_str rfl T.z_len PySem.boot_len (pa_cons (pe_ix (r := rIxL K) ix_list (pv 1) pe_int (fun _ _ => rfl)) pa_nil))) po_none) pa_nil)))))))))))), ?_⟩
  have h6 := hA.six
  have m0 : ∀ {σ : L2.St} {H' : Hp}, Ex H H' → σ[1]? = some (some (.ref a)) → Ev (tOp (rIxL K) (tVar 1) (tC (.int 0))) σ H' (tx h) := fun e hs => ev_op (ev_var hs) ev_c (rv_ixL (ex_l e hS) rfl)
  have m1 : ∀ {σ : L2.St} {H' : Hp}, Ex H H' → σ[1]? = some (some (.ref a)) → Ev (tOp (rIxL K) (tVar 1) (tC (.int 1))) σ H' (tx v) := fun e hs => ev_op (ev_var hs) ev_c (rv_ixL (ex_l e hS) rfl)
  have k0 : ∀ {σ : L2.St} {H' : Hp}, Ex H H' → σ[2]? = some (some (.ref b)) → Ev (tOp (rIxL K) (tVar 2) (tC (.int 0))) σ H' (.int (at0 r 0)) := fun e hs => ev_atI (i := 0) (ex_l e hR) (by omega) rfl (ev_var hs) ev_c
  have v0 : v[0]? = some (v.getD 0 0) := take_getD (by omega)
  have ov0 : Onl al [v.getD 0 0] := Onl.one (ov _ (List.mem_of_getElem? v0))
  refine q_when (et_test (ev_op (k0 (Ex.refl H) rfl) ev_c (rv_eq rfl))) (fun hb H1 e1 => ?_) (fun hb H1 e1 => ?_)
  · refine q_when (et_eqS (a := h) (b := []) (m0 e1 rfl) ev_c) (fun hb2 H2 e2 => ?_) (fun hb2 H2 e2 => ?_)
    · have e12 := e1.trans e2
      refine s_retL (xs := [tx [], tx (v.drop 1 ++ [v.getD 0 0])]) (el_lst (ea_cons ev_c (ea_cons (ev_catS (a := v.drop 1) (b := [v.getD 0 0]) (by rw [List.length_drop]; show _ + 1 ≤ _; omega) (ev_is (ev_slS (by omega) (m1 e12 rfl) (eo_some (i := ((1 : Nat) : Int)) ev_c) eo_none) (by rw [cutL_from])) (ev_ixS (i := 0) (by omega) v0 (m1 e12 rfl) ev_c)) ea_nil)) (by show 2 ≤ 100000; decide)) fun l H3 hl e3 g3 => ?_
      have ll : (v.drop 1 ++ [v.getD 0 0]).length = v.length := by
        rw [List.length_append, List.length_drop]
        show v.length - 1 + 1 = _
        omega
      exact q _ _ Onl.nil (Nat.zero_le _) ((ov.drop 1).app ov0) (by omega) (by omega) l H3 (fresh_back e12 hl) (e12.trans e3) g3
    · have e12 := e1.trans e2
      refine s_retL (xs := [tx (h.drop 1), tx v]) (el_lst (ea_cons (ev_is (ev_slS (by omega) (m0 e12 rfl) (eo_some (i := ((1 : Nat) : Int)) ev_c) eo_none) (by rw [cutL_from])) (ea_cons (m1 e12 rfl) ea_nil)) (by show 2 ≤ 100000; decide)) fun l H3 hl e3 g3 => ?_
      exact q _ _ (oh.drop 1) (by rw [List.length_drop]; omega) ov l1 lv l H3 (fresh_back e12 hl) (e12.trans e3) g3
  refine q_when (et_and (et_test (ev_op (k0 e1 rfl) ev_c (rv_eq rfl))) fun _ => et_lt (ev_lenS (l := v) (by omega) (m1 e1 rfl)) ev_c) (fun hb H2 e2 => ?_) (fun hb H2 e2 => ?_)
  · have e12 := e1.trans e2
    rw [Bool.and_eq_true] at hb
    have cv := of_decide_eq_true hb.2
    have ll : (v ++ [v.getD 0 0]).length = v.length + 1 := by
      rw [List.length_append]
      rfl
    refine s_retL (xs := [tx h, tx (v ++ [v.getD 0 0])]) (el_lst (ea_cons (m0 e12 rfl) (ea_cons (ev_catS (a := v) (b := [v.getD 0 0]) (by show _ + 1 ≤ _; omega) (m1 e12 rfl) (ev_ixS (i := 0) (by omega) v0 (m1 e12 rfl) ev_c)) ea_nil)) (by show 2 ≤ 100000; decide)) fun l H3 hl e3 g3 => ?_
    exact q _ _ oh lh (ov.app ov0) (by omega) (by omega) l H3 (fresh_back e12 hl) (e12.trans e3) g3
  have e12 := e1.trans e2
  refine q_when (et_and (et_test (ev_op (k0 e12 rfl) ev_c (rv_eq rfl))) fun _ => et_gt (ev_lenS (l := v) (by omega) (m1 e12 rfl)) ev_c) (fun hb H3 e3 => ?_) (fun hb H3 e3 => ?_)
  · have e13 := e12.trans e3
    rw [Bool.and_eq_true] at hb
    have cv := of_decide_eq_true hb.2
    refine s_retL (xs := [tx h, tx (v.take (v.length - 1))]) (el_lst (ea_cons (m0 e13 rfl) (ea_cons (ev_is (ev_slS (by omega) (m1 e13 rfl) eo_none (eo_some (i := -1) (ev_un ev_c ru_neg))) (by rw [cutL_last])) ea_nil)) (by show 2 ≤ 100000; decide)) fun l H4 hl e4 g4 => ?_
    exact q _ _ oh lh (ov.take _) (by rw [List.length_take]; omega) (by rw [List.length_take]; omega) l H4 (fresh_back e13 hl) (e13.trans e4) g4
  have e13 := e12.trans e3
  refine q_asg (v := tx (h ++ v)) (ev_catS (by omega) (m0 e13 rfl) (m1 e13 rfl)) fun H4 e4 => ?_
  have f1 := e13.trans e4
  have lt : (h ++ v).length = h.length + v.length := List.length_append
  have ot : Onl al (h ++ v) := oh.app ov
  generalize hht : h ++ v = t at *
  obtain ⟨i, hi, ei⟩ := int_mod (x := at0 r 1) (n := t.length) (by omega)
  refine q_asg (v := .int (i : Int)) (ev_is (ev_mod (j := (t.length : Int)) (by omega) (ev_int (ev_atI (i := 1) (ex_l f1 hR) (by omega) rfl (ev_var rfl) ev_c)) (ev_lenS (l := t) (by omega) (ev_var rfl))) (by rw [ei])) fun H5 e5 => ?_
  have f2 := f1.trans e5
  have hti : t[i]? = some (t.getD i 0) := take_getD hi
  obtain ⟨i0, kk, d0, hi0, ek0, hk0, hd0⟩ := next_letter hA (ot _ (List.mem_of_getElem? hti)) (at0 r 2)
  refine q_asg (v := tx [d0]) (ev_ixS (i := kk) (by omega) hk0 (ev_var rfl) (ev_is (ev_mod (j := (al.length : Int)) (by have := hA.pos; omega) (ev_int (ev_add (ev_add (ev_sidx hA.nd hi0 (ev_var rfl) (ev_ixS (i := i) (by omega) hti (ev_var rfl) (ev_var rfl))) ev_c) (ev_atI (i := 2) (ex_l f2 hR) (by omega) rfl (ev_var rfl) ev_c))) (ev_lenS (l := al) (by omega) (ev_var rfl))) (by rw [ek0]))) fun H6 e6 => ?_
  have f3 := f2.trans e6
  have oo : Onl al [d0] := Onl.one hd0
  refine q_asg (v := tx (t.take i ++ [d0] ++ t.drop (i + 1))) (ev_catS (by simp only [List.length_append, List.length_take, List.length_drop, List.length_singleton]; omega) (ev_catS (b := [d0]) (by simp only [List.length_take, List.length_singleton]; omega) (ev_is (ev_slS (by omega) (ev_var rfl) eo_none (eo_some (i := (i : Int)) (ev_var rfl))) (by rw [cutL_to])) (ev_var rfl))
    (ev_is (ev_slS (by omega) (ev_var rfl) (eo_some (i := ((i + 1 : Nat) : Int)) (ev_is (ev_add (ev_var rfl) ev_c) (by rw [Int.natCast_add]; rfl))) eo_none) (by rw [cutL_from]))) fun H7 e7 => ?_
  have ou : Onl al (t.take i ++ [d0] ++ t.drop (i + 1)) := ((ot.take _).app oo).app (ot.drop _)
  have lu : (t.take i ++ [d0] ++ t.drop (i + 1)).length = h.length + v.length := by
    simp only [List.length_append, List.length_take, List.length_drop, List.length_singleton]
    omega
  generalize t.take i ++ [d0] ++ t.drop (i + 1) = u at *
  have f4 := f3.trans e7
  have hln : ∀ {σ : L2.St} {H' : Hp}, Ex H H' → σ[1]? = some (some (.ref a)) → Ev (tCB (fun vs H Q => ∃ z : Str, vs = [.str z] ∧ z.length ≤ sizeLine ∧ Q (.int (z.length : Int)) H) (tCons (tOp (rIxL K) (tVar 1) (tC (.int 0))) tNil)) σ H' (.int (h.length : Int)) := fun e hs => ev_lenS (l := h) (by omega) (m0 e hs)
  refine s_retL (xs := [tx (u.take h.length), tx (u.drop h.length)]) (el_lst (ea_cons (ev_is (ev_slS (by omega) (ev_var rfl) eo_none (eo_some (i := (h.length : Int)) (hln f4 rfl))) (by rw [cutL_to])) (ea_cons (ev_is (ev_slS (by omega) (ev_var rfl) (eo_some (i := (h.length : Int)) (hln f4 rfl)) eo_none) (by rw [cutL_from])) ea_nil)) (by show 2 ≤ 100000; decide)) fun l H8 hl e8 g8 => ?_
  exact q _ _ (ou.take _) (by rw [List.length_take]; omega) (ou.drop _) (by rw [List.length_drop]; omega) (by rw [List.length_drop]; omega) l H8 (fresh_back f4 hl) (f4.trans e8) g8
end
end Ver
namespace Ver
theorem beg_getD {e : Nat → Nat} {n i : Nat} (h : i < n) : (beg e n).getD i 0 = e i := by
  rw [List.getD_eq_getElem?_getD, beg_at h]
  rfl
theorem ex_nil {r : List Nat} (i : Nat) : ex [] r i = rd r i := by
  rw [ex_ring (Nat.zero_le _)]
  rfl
/-- a long head and a ring that is turned and repeated -/
theorem ex_long {fa fb : List Nat} {n m : Nat} (hb : 0 < fb.length) (i : Nat) :
    ex (beg (ex fa fb) (fa.length + n)) (beg (ex [] (fb.drop (n % fb.length) ++ fb.take (n % fb.length))) (fb.length * (1 + m))) i = ex fa fb i := by
  have hm := Nat.mod_lt n hb
  have hl : (fb.drop (n % fb.length) ++ fb.take (n % fb.length)).length = fb.length := by
    rw [List.length_append, List.length_drop, List.length_take]
    omega
  have hlen := beg_len (ex fa fb) (fa.length + n)
  have pos : 0 < fb.length * (1 + m) := Nat.mul_pos hb (by omega)
  by_cases c : i < fa.length + n
  · rw [ex_head (by rw [hlen]; exact c), beg_getD c]
  · rw [ex_ring (by rw [hlen]; omega), hlen, beg_len, beg_getD (Nat.mod_lt _ pos), ex_nil, rot_rd hm, ex_rd' (by omega)]
    have e : i - fa.length = n + (i - (fa.length + n)) := by omega
    rw [e]
    generalize i - (fa.length + n) = x
    rw [← rd_mod (n % fb.length + x % (fb.length * (1 + m))), ← rd_mod (n + x), Nat.mod_add_mod, ← Nat.add_mod_mod n (x % _), Nat.mod_mul_right_mod, Nat.add_mod_mod]
/-- agreeing for 240 letters is agreeing for ever -/
theorem ex_240 {h r h2 r2 : List Nat} (l1 : h.length ≤ 60) (l2 : h2.length ≤ 60) (p1 : 0 < r.length) (p2 : 0 < r2.length) (q1 : r.length ≤ 60) (q2 : r2.length ≤ 60) (he : ∀ i, i < 240 → ex h r i = ex h2 r2 i) (i : Nat) : ex h r i = ex h2 r2 i := by
  induction i using Nat.strongRecOn with
  | ind i ih =>
    by_cases c : i < 240
    · exact he i c
    · have a1 : ex h r i = ex h r (i - r.length) := by
        have := ex_per (h := h) (r := r) (i := i - r.length) (by omega)
        rw [show i - r.length + r.length = i by omega] at this
        exact this
      have a2 : ex h2 r2 i = ex h2 r2 (i - r2.length) := by
        have := ex_per (h := h2) (r := r2) (i := i - r2.length) (by omega)
        rw [show i - r2.length + r2.length = i by omega] at this
        exact this
      have b1 : ex h r (i - r2.length) = ex h r (i - r.length - r2.length) := by
        have := ex_per (h := h) (r := r) (i := i - r.length - r2.length) (by omega)
        rw [show i - r.length - r2.length + r.length = i - r2.length by omega] at this
        exact this
      have b2 : ex h2 r2 (i - r.length) = ex h2 r2 (i - r.length - r2.length) := by
        have := ex_per (h := h2) (r := r2) (i := i - r.length - r2.length) (by omega)
        rw [show i - r.length - r2.length + r2.length = i - r.length by omega] at this
        exact this
      rw [a1, a2, ih (i - r.length) (by omega), b2, ← ih (i - r.length - r2.length) (by omega), ← b1, ih (i - r2.length) (by omega)]
theorem beg_eq {e f : Nat → Nat} {n : Nat} : beg e n = beg f n ↔ ∀ i, i < n → e i = f i := by
  constructor
  · intro h i hi
    have := congrArg (fun l => l[i]?) h
    simp only [beg_at hi, Option.some.injEq] at this
    exact this
  · intro h
    unfold beg
    exact List.map_congr_left fun x hx => h x (List.mem_range.mp hx)
/-- two least forms and the first letters -/
theorem alike_is {h r h2 r2 a b a2 b2 : List Nat} {N M : Nat} (l1 : h.length ≤ 60) (l2 : h2.length ≤ 60) (p1 : 0 < r.length) (p2 : 0 < r2.length) (q1 : r.length ≤ 60) (q2 : r2.length ≤ 60) (v1 : Vty (ex h r) N) (v2 : Vty (ex h2 r2) M) (e1 : ∀ i, ex a b i = ex h r i) (e2 : ∀ i, ex a2 b2 i = ex h2 r2 i) (n1 : a.length + b.length = N) (n2 : a2.length + b2.length = M) (b1 : 0 < b.length) (b2' : 0 < b2.length) :
    decide (beg (ex h2 r2) 240 = beg (ex h r) 240) = (decide (a = a2) && decide (b = b2)) := by
  by_cases c : beg (ex h2 r2) 240 = beg (ex h r) 240
  · have all := ex_240 l2 l1 p2 p1 q2 q1 (beg_eq.mp c)
    have ef : ex h2 r2 = ex h r := funext all
    rw [ef] at v2
    have nm := v2.one v1
    obtain ⟨k1, k2⟩ := rep_one v1 e1 (fun i => (e2 i).trans (all i)) b1 b2' n1 (n2.trans nm)
    rw [decide_eq_true c, decide_eq_true k1, decide_eq_true k2]
    rfl
  · rw [decide_eq_false c]
    by_cases k : a = a2 ∧ b = b2
    · refine absurd (beg_eq.mpr fun i _ => ?_) c
      rw [← e1, ← e2, k.1, k.2]
    · by_cases k1 : a = a2
      · rw [decide_eq_false (fun k2 => k ⟨k1, k2⟩), Bool.and_false]
      · rw [decide_eq_false k1, Bool.false_and]
end Ver
namespace Ver
open PySem PySem.Spec PyProof.Rows L2 Evl
theorem onl_ex {al a b : List Nat} (oa : Onl al a) (ob : Onl al b) (hb : 0 < b.length) (i : Nat) : ex a b i ∈ al := by
  by_cases c : i < a.length
  · rw [ex_head c]
    exact oa _ (List.mem_of_getElem? (take_getD c))
  · rw [ex_ring (by omega)]
    exact ob _ (List.mem_of_getElem? (take_getD (Nat.mod_lt _ hb)))
theorem onl_beg {al a b : List Nat} (oa : Onl al a) (ob : Onl al b) (hb : 0 < b.length) (n : Nat) : Onl al (beg (ex a b) n) := fun c hc => by
  unfold beg at hc
  obtain ⟨i, _, rfl⟩ := List.mem_map.mp hc
  exact onl_ex oa ob hb i
section
variable {σ : L2.St} {H : Hp} {t1 t2 t3 t4 ta tb : TE} {sp : Sp} {E : XK} {x1 x2 y : V} {xs ys : List V} {C : Addr}
theorem ev_c2LL (h1 : Ev t1 σ H x1) (h2 : Ev t2 σ H x2) (h3 : EvL t3 σ H xs) (h4 : EvL t4 σ H ys) (hs : ∀ p q H1, Ex H H1 → H1 p = some (.lst xs) → H1 q = some (.lst ys) → SpV sp ([x1, x2, .ref p, .ref q] ++ []) H1 y) : Ev (tCall sp [] E (tCons t1 (tCons t2 (tCons t3 (tCons t4 tNil))))) σ H y := fun H0 e Q q =>
  h1 H0 e _ fun H1 e1 => h2 H1 (e.trans e1) _ fun H2 e2 => h3 H2 ((e.trans e1).trans e2) _ fun p H3 _ e3 g3 => h4 H3 (((e.trans e1).trans e2).trans e3) _ fun r H4 _ e4 g4 =>
    hs p r H4 ((((e.trans e1).trans e2).trans e3).trans e4) (e4 _ _ g3) g4 H4 (Ex.refl H4) Q (fun H5 e5 => q H5 ((((e1.trans e2).trans e3).trans e4).trans e5)) E
theorem run_rndA {tp : TA} {al h v : List Nat} {Q : VK} (hA : Alf al) (oh : Onl al h) (ov : Onl al v) (l1 : 1 ≤ v.length) (lv : v.length ≤ 1000) (lh : h.length ≤ 1000) (hp : EvA tp σ H [tx al, tx h, tx v])
    (k : ∀ p N H2, H p = none → Ex H H2 → N ≤ h.length + v.length → RndAt C H2 p (ex h v) N → RndAl C H2 p al → Q (.ref p) H2) : tMake C (spRnd C) [] E tp σ H Q := hp H (Ex.refl H) _ fun H1 e1 x dx hx hdx ne =>
  ⟨al, h, v, x, dx, H1, rfl, (Ex.new hdx).trans (Ex.new (by rw [upd_ne ne.symm]; exact hx)), hx, upd_same, hA, oh, ov, by omega, by omega, by omega, fun H2 N e2 hN hR hL => ⟨rfl, k x N H2 (fresh_back e1 hx) (e1.trans e2) hN hR hL⟩⟩
/-- the same Round again, by another writing -/
theorem rnd_same {p : Addr} {al h v a b : List Nat} {N : Nat} (hR : RndAt C H p (ex h v) N) (hL : RndAl C H p al) (vty : Vty (ex a b) (a.length + b.length)) (he : ∀ i, ex h v i = ex a b i) (hb : 0 < b.length) : RndAt C H p (ex a b) (a.length + b.length) ∧ RndI C H p al a b := by
  have e1 : ex h v = ex a b := funext he
  rw [e1] at hR
  have e2 := hR.vty.one vty
  subst e2
  exact ⟨hR, rnd_exact hR hL hb rfl fun _ => rfl⟩
theorem ev_same {p t : Addr} {al a b : List Nat} (ha : Ev ta σ H (.ref p)) (hb : Ev tb σ H (.ref t)) (i1 : RndI C H p al a b) (i2 : RndI C H t al a b) : Ev (tOp (rOwn C (spREq C) E0) ta tb) σ H (.bl true) := ev_is (ev_req ha hb i1 i2) (by rw [decide_eq_true rfl, decide_eq_true rfl, decide_eq_true rfl]; rfl)
end
section
variable {P : Program} {w : World} {K : PySem.W.Frag} {mg : Str → Option Value} {base : Heap} {C_Round : Addr}
def spLg (K : PySem.W.Frag) (C : Addr) : Sp := fun vs H Q _ => ∃ (al : List Nat) (p a b : Addr) (fa fb : List Nat) (z : List Int), vs = [tx al, .ref p, .ref a, .ref b] ∧ Alf al ∧ RndAt C H p (ex fa fb) (fa.length + fb.length) ∧ RndI C H p al fa fb ∧ SqL K H a [tx fa, tx fb] ∧ Onl al fa ∧ Onl al fb ∧ 0 < fb.length ∧ fb.length ≤ 60 ∧ fa.length ≤ 60 ∧
  SqL K H b (z.map V.int) ∧ z.length = 2 ∧ (0 ≤ at0 z 0 ∧ at0 z 0 ≤ 300) ∧ (0 ≤ at0 z 1 ∧ at0 z 1 ≤ 7) ∧ RetV (.bl true) H Q
theorem has_lg (F : At K mg "_law_long_right" s__law_long_right) (T : Top K mg C_Round) (h1 : HasM P w K mg base C_Round "beginning" ["self", "length"] 1 (spBeg C_Round)) (h2 : HasI P w K mg base C_Round ["self", "alphabet", "head", "ring"] 3 (spRnd C_Round)) (h3 : Has P w K mg base "_law_has_form" s__law_has_form ["actual", "abc", "form"] 2 (spHf K C_Round))
    (h4 : Has P w K mg base "_law_told" s__law_told ["actual", "due"] 1 spTold) (h5 : HasM P w K mg base C_Round "__eq__" ["self", "other"] 1 (spREq C_Round)) (h6 : Has P w K mg base "_law_reads" s__law_reads ["actual", "made", "indexes", "lengths"] 2 (spReads K C_Round)) : Has P w K mg base "_law_long_right" s__law_long_right ["abc", "first", "form", "row"] 5 (spLg K C_Round) := by
  obtain ⟨f, fd, F, m⟩ := F.ex
  obtain ⟨f1, fd1, G_Round_beginning, b_Round_beginning, M_Round_beginning⟩ := h1
  obtain ⟨f2, fd2, G_Round___init__, b_Round___init__, mk_Round⟩ := h2
  obtain ⟨f3, fd3, _, G__law_has_form, b__law_has_form, m__law_has_form, k__law_has_form⟩ := h3
  obtain ⟨f4, fd4, _, G__law_told, b__law_told, m__law_told, k__law_told⟩ := h4
  obtain ⟨f5, fd5, G_Round___eq__, b_Round___eq__, M_Round___eq__⟩ := h5
  obtain ⟨f6, fd6, _, G__law_reads, b__law_reads, m__law_reads, k__law_reads⟩ := h6
  refine ⟨f, fd, F, F.ok S__law_long_right (fun vs H Q E h => ?_) (fun cdv A outer s H vs Q E hr h => ?_), F.binds fun _ _ _ _ _ _ us hl => match us, hl with | [_, _, _, _], _ => rfl, m, F.kp⟩
  · obtain ⟨al, p, a, b, fa, fb, z, rfl, _⟩ := h
    rfl
  obtain ⟨al, p, a, b, fa, fb, z, rfl, hA, hR, hI, hm, oa, ob, bp, b6, a6, hz, zl, z0, z1, q⟩ := h
  refine ⟨_, (pss_cons
    (ps_set (i := 4) S__law_long_right.nd rfl (Or.inl rfl) (pe_meth (pv 1) T.cl_Round M_Round_beginning G_Round_beginning (hr.mono (by decide)) b_Round_beginning .nil pass0 (pa_cons (pe_op op_add (pe_callB call_len_str rfl T.z_len PySem.boot_len (pa_cons (pe_ix (r := rIxL K) ix_list (pv 2) pe_int (fun _ _ => rfl)) pa_nil)) (pe_ix (r := rIxL K) ix_list (pv 3) pe_int (fun _ _ => rfl))) pa_nil)))
    (pss_cons
    (ps_set (i := 5) S__law_long_right.nd rfl (Or.inl rfl) (pe_op op_mod (pe_callTy call_int1 rfl T.z_int (by decide +kernel) (pa_cons (pe_ix (r := rIxL K) ix_list (pv 3) pe_int (fun _ _ => rfl)) pa_nil)) (pe_callB call_len_str rfl T.z_len PySem.boot_len (pa_cons (pe_ix (r := rIxL K) ix_list (pv 2) pe_int (fun _ _ => rfl)) pa_nil))))
    (pss_cons
    (ps_set (i := 6) S__law_long_right.nd rfl (Or.inl rfl) (pe_meth (pe_make mk_Round G_Round___init__ (hr.mono (by decide)) rfl T.c_Round b_Round___init__ .nil pass0 (pa_cons (pv 0) (pa_cons pe_str (pa_cons (pe_op op_add_str (pe_slice sl_str (pe_ix (r := rIxL K) ix_list (pv 2) pe_int (fun _ _ => rfl)) (po_some (pv 5)) po_none) (pe_slice sl_str (pe_ix (r := rIxL K) ix_list (pv 2) pe_int (fun _ _ => rfl)) po_none (po_some (pv 5)))) pa_nil)))) T.cl_Round M_Round_beginning G_Round_beginning (hr.mono (by decide)) b_Round_beginning .nil pass0 (pa_cons (pe_op op_mul (pe_callB call_len_str rfl T.z_len PySem.boot_len (pa_cons (pe_ix (r := rIxL K) ix_list (pv 2) pe_int (fun _ _ => rfl)) pa_nil)) (pe_op op_add pe_int (pe_ix (r := rIxL K) ix_list (pv 3) pe_int (fun _ _ => rfl)))) pa_nil)))
    (pss_cons
    (ps_set (i := 7) S__law_long_right.nd rfl (Or.inl rfl) (pe_make mk_Round G_Round___init__ (hr.mono (by decide)) rfl T.c_Round b_Round___init__ .nil pass0 (pa_cons (pv 0) (pa_cons (pv 4) (pa_cons (pv 6) pa_nil)))))
    (pss_cons
    (ps_if (PW.pt (pw_or (pt_not (pt_val (pe_call G__law_has_form (hr.mono (by decide)) rfl m__law_has_form k__law_has_form b__law_has_form .nil pass0 (pa_cons (pv 7) (pa_cons (pv 0) (pa_cons (pv 2) pa_nil)))))) (pw_or (pt_not (pt_val (pe_call G__law_told (hr.mono (by decide)) rfl m__law_told k__law_told b__law_told .nil pass0 (pa_cons (pe_cmpR (op_own M_Round___eq__ G_Round___eq__ (hr.mono (by decide)) b_Round___eq__ pass0) (pv 7) (pv 1) (nomark _)) (pa_cons pe_bl pa_nil))))) (pw_or1 (pt_not (pt_val (pe_call G__law_told (hr.mono (by decide)) rfl m__law_told k__law_told b__law_told .nil pass0 (pa_cons (pe_cmpR (op_own M_Round___eq__ G_Round___eq__ (hr.mono (by decide)) b_Round___eq__ pass0) (pv 1) (pv 7) (nomark _)) (pa_cons pe_bl pa_nil))))))))) (pss_one
    (ps_ret pe_bl)) pss_nil)
    (pss_one
    (ps_ret (pe_call G__law_reads (hr.mono (by decide)) rfl m__law_reads k__law_reads b__law_reads .nil pass0 (pa_cons (pv 7) (pa_cons (pv 2) (pa_cons (pe_lst (pa_cons (pe_ix (r := rIxL K) ix_list (pv 3) pe_int (fun _ _ => rfl)) (pa_cons (pe_op op_pow pe_int pe_int) pa_nil))) (pa_cons (pe_lst (pa_cons pe_int (pa_cons (pe_op op_add (pe_callB call_len_str rfl T.z_len PySem.boot_len (pa_cons (pe_ix (r := rIxL K) ix_list (pv 2) pe_int (fun _ _ => rfl)) pa_nil)) (pe_ix (r := rIxL K) ix_list (pv 3) pe_int (fun _ _ => rfl))) pa_nil))) pa_nil)))))))))))), ?_⟩
  obtain ⟨n, en⟩ : ∃ n : Nat, at0 z 0 = (n : Int) := ⟨(at0 z 0).toNat, by omega⟩
  obtain ⟨k, ek⟩ : ∃ k : Nat, at0 z 1 = (k : Int) := ⟨(at0 z 1).toNat, by omega⟩
  have n3 : n ≤ 300 := by omega
  have k7 : k ≤ 7 := by omega
  obtain ⟨dx, ip⟩ := id hI
  have m0 : ∀ {σ : L2.St} {H' : Hp}, Ex H H' → σ[2]? = some (some (.ref a)) → Ev (tOp (rIxL K) (tVar 2) (tC (.int 0))) σ H' (tx fa) := fun e hs => ev_op (ev_var hs) ev_c (rv_ixL (ex_l e hm) rfl)
  have m1 : ∀ {σ : L2.St} {H' : Hp}, Ex H H' → σ[2]? = some (some (.ref a)) → Ev (tOp (rIxL K) (tVar 2) (tC (.int 1))) σ H' (tx fb) := fun e hs => ev_op (ev_var hs) ev_c (rv_ixL (ex_l e hm) rfl)
  have k0 : ∀ {σ : L2.St} {H' : Hp}, Ex H H' → σ[3]? = some (some (.ref b)) → Ev (tOp (rIxL K) (tVar 3) (tC (.int 0))) σ H' (.int (n : Int)) := fun e hs => ev_is (ev_atI (i := 0) (ex_l e hz) (by omega) rfl (ev_var hs) ev_c) (by rw [en])
  have k1 : ∀ {σ : L2.St} {H' : Hp}, Ex H H' → σ[3]? = some (some (.ref b)) → Ev (tOp (rIxL K) (tVar 3) (tC (.int 1))) σ H' (.int (k : Int)) := fun e hs => ev_is (ev_atI (i := 1) (ex_l e hz) (by omega) rfl (ev_var hs) ev_c) (by rw [ek])
  have cl := T.cl_Round
  have nol : ∀ {al h r : List Nat} {N : Nat}, (rndFs al h r N).lookup ("beginning" : Str) = none := rf_none (by decide) (by decide) (by decide) (by decide)
  have span : ∀ {σ : L2.St} {H' : Hp}, Ex H H' → σ[2]? = some (some (.ref a)) → σ[3]? = some (some (.ref b)) → Ev (tOp (rI0 fun i j => .int (i + j)) (tCB (fun vs H Q => ∃ z : Str, vs = [.str z] ∧ z.length ≤ sizeLine ∧ Q (.int (z.length : Int)) H) (tCons (tOp (rIxL K) (tVar 2) (tC (.int 0))) tNil)) (tOp (rIxL K) (tVar 3) (tC (.int 0)))) σ H' (.int ((fa.length + n : Nat) : Int)) := fun e h2 h3 => ev_is (ev_add (ev_lenS (l := fa) (by omega) (m0 e h2)) (k0 e h3)) (by rw [Int.natCast_add])
  refine q_asg (v := tx (beg (ex fa fb) (fa.length + n))) (ev_meth (ev_var rfl) ip nol (ea_cons (span (Ex.refl H) rfl rfl) ea_nil) (sv_beg hR (by omega) (by omega))) fun H1 e1 => ?_
  have htn := Nat.mod_lt n bp
  refine q_asg (v := .int ((n % fb.length : Nat) : Int)) (ev_is (ev_mod (j := (fb.length : Int)) (by omega) (ev_int (k0 e1 rfl)) (ev_lenS (l := fb) (by omega) (m1 e1 rfl))) (by rw [Int.natCast_emod])) fun H2 e2 => ?_
  have e12 := e1.trans e2
  have oR : Onl al (fb.drop (n % fb.length) ++ fb.take (n % fb.length)) := (ob.drop _).app (ob.take _)
  have lR : (fb.drop (n % fb.length) ++ fb.take (n % fb.length)).length = fb.length := by
    rw [List.length_append, List.length_drop, List.length_take]
    omega
  have long := fun i => ex_long (fa := fa) (fb := fb) (n := n) (m := k) bp i
  refine q_asgR (run_rndA (h := []) (v := fb.drop (n % fb.length) ++ fb.take (n % fb.length)) hA Onl.nil oR (by omega) (by omega) (Nat.zero_le _) (ea_cons (ev_var rfl) (ea_cons (ev_is ev_c (by rw [nil_is])) (ea_cons (ev_catS (a := fb.drop (n % fb.length)) (b := fb.take (n % fb.length)) (by rw [List.length_drop, List.length_take]; omega) (ev_is (ev_slS (by omega) (m1 e12 rfl) (eo_some (i := ((n % fb.length : Nat) : Int)) (ev_var rfl)) eo_none) (by rw [cutL_from])) (ev_is (ev_slS (by omega) (m1 e12 rfl) eo_none (eo_some (i := ((n % fb.length : Nat) : Int)) (ev_var rfl))) (by rw [cutL_to]))) ea_nil)))
    fun p2 N2 H3 hp2 e3 hN2 hR2 hL2 => ?_)
  generalize fb.drop (n % fb.length) ++ fb.take (n % fb.length) = rot at oR lR long hR2 hN2
  have e13 := e12.trans e3
  obtain ⟨dx2, al2, h2', r2', ip2, _⟩ := hR2.ex
  have hb7 : fb.length * (1 + k) ≤ 480 := Nat.le_trans (Nat.mul_le_mul b6 (show 1 + k ≤ 8 by omega)) (by decide)
  have hb0 : 0 < fb.length * (1 + k) := Nat.mul_pos bp (by omega)
  refine ⟨p2, dx2, _, rfl, ip2, nol, (ea_cons (ev_is (ev_mulR (i := (fb.length : Int)) (j := ((1 + k : Nat) : Int)) (by omega) (by omega) (ev_lenS (l := fb) (by omega) (m1 e13 rfl)) (ev_is (ev_add ev_c (k1 e13 rfl)) (by rw [Int.natCast_add]; rfl))) (w := .int ((fb.length * (1 + k) : Nat) : Int)) (by rw [Int.natCast_mul])) ea_nil) H3 (Ex.refl H3) _ fun H4 e4 => ⟨p2, ex [] rot, N2, fb.length * (1 + k), rfl, hR2.mono e4, by show N2 ≤ 1000; have : N2 ≤ 0 + rot.length := hN2; omega, by omega, fun H5 e5 => ?_⟩⟩
  have e15 := (e13.trans e4).trans e5
  have lc : (beg (ex [] rot) (fb.length * (1 + k))).length = fb.length * (1 + k) := beg_len _ _
  have oc : Onl al (beg (ex [] rot) (fb.length * (1 + k))) := onl_beg Onl.nil oR (by omega) _
  have lf : (beg (ex fa fb) (fa.length + n)).length = fa.length + n := beg_len _ _
  have of := onl_beg oa ob bp (fa.length + n)
  generalize beg (ex [] rot) (fb.length * (1 + k)) = circ at lc oc long
  generalize beg (ex fa fb) (fa.length + n) = frt at lf of long
  refine q_asgR (run_rndA (h := frt) (v := circ) hA of oc (by omega) (by omega) (by omega) (ea_cons (ev_var rfl) (ea_cons (ev_var rfl) (ea_cons (ev_var rfl) ea_nil))) fun p3 N3 H6 hp3 e6 hN3 hR3 hL3 => ?_)
  have e16 := e15.trans e6
  obtain ⟨hR3', hI3⟩ := rnd_same hR3 hL3 hR.vty long bp
  have hI6 := hI.mono e16
  have told : ∀ {σ : L2.St} {H' : Hp} {ta tb : TE} {p t : Addr}, Ev ta σ H' (.ref p) → Ev tb σ H' (.ref t) → RndI C_Round H' p al fa fb → RndI C_Round H' t al fa fb → EvT (tNot (tTest (tCall spTold [] E0 (tCons (tOp (rOwn C_Round (spREq C_Round) E0) ta tb) (tCons (tC (.bl true)) tNil))))) σ H' false := fun h1 h2 i1 i2 => et_is (et_not (a := true) (et_test (b := true) (ev_is (ev_call (ea_cons (ev_same h1 h2 i1 i2) (ea_cons ev_c ea_nil)) sv_told) rfl))) rfl
  refine q_skip (et_is (et_or (a := false) (et_is (et_not (a := true) (et_test (b := true) (ev_call (ea_cons (ev_var rfl) (ea_cons (ev_var rfl) (ea_cons (ev_var rfl) ea_nil))) (sv_hf hI3 (ex_l e16 hm) (by omega) (by omega))))) rfl) (fun _ => et_or (a := false) (told (ev_var rfl) (ev_var rfl) hI3 hI6) (fun _ => told (ev_var rfl) (ev_var rfl) hI6 hI3))) rfl) fun H7 e7 => ?_
  have e17 := e16.trans e7
  have hP : CPow 10 30 := ⟨by decide, by decide, by decide⟩
  exact s_ret (ev_c2LL (xs := [n, 10 ^ 30].map ivn) (ys := [0, fa.length + n].map ivn) (ev_var rfl) (ev_var rfl) (el_lst (ea_cons (k0 e17 rfl) (ea_cons (ev_is (ev_op ev_c ev_c (rv_I hP)) (by decide +kernel)) ea_nil)) (by show 2 ≤ 100000; decide)) (el_lst (ea_cons ev_c (ea_cons (span e17 rfl rfl) ea_nil)) (by show 2 ≤ 100000; decide)) fun x y H8 e8 g8 g9 => sv_reads (hR3'.mono (e7.trans e8)) (by omega) (ex_l (e17.trans e8) hm) bp (by omega) (by omega) (sq_of g8) (sq_of g9) (fun l hl => by
    rcases List.mem_cons.mp hl with rfl | hl
    · omega
    · rw [List.mem_singleton.mp hl]
      omega)) fun H8 e8 => q H8 (e17.trans e8)
end
end Ver
namespace Ver
/-! ### strings that are no alphabets; a sign that an alphabet has not -/
theorem getD_injN {l : List Nat} (nd : l.Nodup) {i j : Nat} (hi : i < l.length) (hj : j < l.length) (h : l.getD i 0 = l.getD j 0) : i = j := by
  rw [List.getD_eq_getElem?_getD, List.getD_eq_getElem?_getD, List.getElem?_eq_getElem hi, List.getElem?_eq_getElem hj] at h
  exact (List.getElem_inj nd).mp h
/-- seven different signs are not all among six -/
theorem seven {l al : List Nat} {f : Nat → Nat} (nd : l.Nodup) (hf : ∀ s, s < 7 → f s < l.length) (inj : ∀ s u, s < 7 → u < 7 → f s = f u → s = u) (h6 : al.length ≤ 6) (h : ∀ s, s < 7 → l.getD (f s) 0 ∈ al) : False := by
  have e := nodup_sub ((List.range 7).map fun s => l.getD (f s) 0) al (by
    rw [List.nodup_iff_pairwise_ne, List.pairwise_map]
    refine List.Pairwise.imp_of_mem (R := (· < ·)) (fun {a b} ha hb hab z => ?_) List.pairwise_lt_range
    have ha := List.mem_range.mp ha
    have hb := List.mem_range.mp hb
    have := inj a b ha hb (getD_injN nd (hf a ha) (hf b hb) z)
    omega) (fun x hx => by
    obtain ⟨s, hs, rfl⟩ := List.mem_map.mp hx
    exact h s (List.mem_range.mp hs))
  rw [List.length_map, List.length_range] at e
  omega
theorem bad_nil : ¬ Alf [] := fun h => absurd h.pos (by decide)
theorem bad_sign {l : List Nat} {c : Nat} (hc : c ∈ l) (hb : ¬ ((48 ≤ c ∧ c ≤ 57) ∨ (97 ≤ c ∧ c ≤ 122))) : ¬ Alf l := fun h => hb (h.let' c hc)
theorem bad_pair {a b : List Nat} {x y : Nat} (hx : x ∈ a) (hy : y ∈ b) (hxy : y ≤ x) : ¬ Alf (a ++ b) := fun h => by
  have := (List.pairwise_append.mp h.asc).2.2 x hx y hy
  omega
theorem bad_long {l : List Nat} (h : 6 < l.length) : ¬ Alf l := fun g => absurd g.six (by omega)
def sgs : List Nat := [48, 49, 50, 51, 52, 53, 54, 55, 56, 57, 97, 98, 99, 100, 101, 102, 103, 104, 105, 106, 107, 108, 109, 110, 111, 112, 113, 114, 115, 116, 117, 118, 119, 120, 121, 122, 32, 65, 90, 126, 45, 95, 10]
theorem sgs_is : PySem.Str.ofString "0123456789abcdefghijklmnopqrstuvwxyz AZ~-_\n" = SX.S sgs := by decide +kernel
theorem sgs_nd : sgs.Nodup := by decide +kernel
theorem sgs_len : sgs.length = 43 := rfl
theorem sgs_at {i : Nat} (h : i < 43) : sgs[i]? = some (sgs.getD i 0) := by
  rw [List.getD_eq_getElem?_getD, List.getElem?_eq_getElem (by rw [sgs_len]; exact h)]
  rfl
end Ver
namespace Ver
open PySem PySem.Spec PyProof.Rows L2 Evl
theorem rv_niSign {c : Nat} {l : List Nat} {H : Hp} : RV (fun x y H Q => ∃ (c : Nat) (z : Str), x = .str ⟨#[c]⟩ ∧ y = .str z ∧ Q (.bl (!decide (c ∈ z.cps.toList))) H) (tx [c]) (tx l) H (.bl (!decide (c ∈ l))) := fun H1 _ Q q => ⟨c, SX.S l, rfl, rfl, by
  have e : (SX.S l).cps.toList = l := by
    show l.toArray.toList = l
    simp
  rw [e]
  exact q H1 (Ex.refl H1)⟩
section
variable {P : Program} {w : World} {K : PySem.W.Frag} {mg : Str → Option Value} {base : Heap} {C_Round : Addr}
/-! ### _law_stranger -/
def spStr : Sp := fun vs H Q _ => ∃ (al : List Nat) (z : Int), vs = [tx al, .int z] ∧ Alf al ∧ ∀ c, c ∉ al → RetV (tx [c]) H Q
theorem has_str (F : At K mg "_law_stranger" s__law_stranger) (T : Top K mg C_Round) : Has P w K mg base "_law_stranger" s__law_stranger ["abc", "turn"] 1 spStr := by
  obtain ⟨f, fd, F, m⟩ := F.ex
  refine ⟨f, fd, F, F.ok S__law_stranger (fun vs H Q E h => ?_) (fun cdv A outer s H vs Q E hr h => ?_), F.binds fun _ _ _ _ _ _ us hl => match us, hl with | [_, _], _ => rfl, m, F.kp⟩
  · obtain ⟨al, z, rfl, _⟩ := h
    rfl
  obtain ⟨al, z, rfl, hA, q⟩ := h
  refine ⟨_, (pss_cons
    (ps_set (i := 2) S__law_stranger.nd rfl (Or.inl rfl) pe_str)
    (pss_cons
    (ps_set (i := 3) S__law_stranger.nd rfl (Or.inl rfl) (pe_op op_mod (pe_callTy call_int1 rfl T.z_int (by decide +kernel) (pa_cons (pv 1) pa_nil)) (pe_callB call_len_str rfl T.z_len PySem.boot_len (pa_cons (pv 2) pa_nil))))
    (pss_cut
    (ps_for PassesOwn.never rfl (pi_range1 rfl T.z_range (pa_cons pe_int pa_nil)) (pg_name (i := 4) S__law_stranger.nd rfl (Or.inl rfl)) (pss_cons
    (ps_if (pt_cmpR op_notIn_sign (pe_ix ix_str (pv 2) (pv 3) (fun _ _ => rfl)) (pv 0) rfl) (pss_one
    ps_break) pss_nil)
    (pss_one
    (ps_set (i := 3) S__law_stranger.nd rfl (Or.inl rfl) (pe_op op_mod (pe_callTy call_int1 rfl T.z_int (by decide +kernel) (pa_cons (pe_op op_add (pv 3) pe_int) pa_nil)) (pe_callB call_len_str rfl T.z_len PySem.boot_len (pa_cons (pv 2) pa_nil)))))))
    (pss_one
    (ps_ret (pe_ix ix_str (pv 2) (pv 3) (fun _ _ => rfl))))))), ?_⟩
  refine q_asg (v := tx sgs) (ev_is ev_c (by rw [sgs_is])) fun H1 e1 => ?_
  obtain ⟨n, hn, en⟩ := int_mod (x := z) (n := 43) (by decide)
  have ln : ∀ {σ : L2.St} {H' : Hp}, σ[2]? = some (some (tx sgs)) → Ev (tCB (fun vs H Q => ∃ z : Str, vs = [.str z] ∧ z.length ≤ sizeLine ∧ Q (.int (z.length : Int)) H) (tCons (tVar 2) tNil)) σ H' (.int 43) := fun hs => ev_is (ev_lenS (l := sgs) (by decide) (ev_var hs)) (by rw [sgs_len]; rfl)
  refine q_asg (v := .int (n : Int)) (ev_is (ev_mod (j := 43) (by decide) (ev_int (ev_var rfl)) (ln rfl)) (by rw [← en]; rfl)) fun H2 e2 => ?_
  have e12 := e1.trans e2
  refine q_cut (M := fun σ' H' => (∃ (k : Nat) (u4 : Option V), σ' = [some (tx al), some (.int z), some (tx sgs), some (.int (k : Int)), u4] ∧ k < 43 ∧ sgs.getD k 0 ∉ al) ∧ Ex H H') ?_ ?_
  · refine s_forR1 (n := 7) (ea_cons ev_c ea_nil) (by decide) (fun i σ' H' => (∃ u4, σ' = [some (tx al), some (.int z), some (tx sgs), some (.int (((n + i) % 43 : Nat) : Int)), u4]) ∧ Ex H H' ∧ ∀ s, s < i → sgs.getD ((n + s) % 43) 0 ∈ al) ?_ ?_ ?_
    · intro H3 e3
      exact ⟨⟨none, by rw [Nat.add_zero, Nat.mod_eq_of_lt hn]; rfl⟩, e12.trans e3, fun s hs => absurd hs (Nat.not_lt_zero _)⟩
    · intro i σ' H' hi z2
      obtain ⟨⟨u4, rfl⟩, e3, hs⟩ := z2
      have hk := Nat.mod_lt (n + i) (show 0 < 43 by decide)
      refine q_when (et_test (ev_op (ev_ixS (i := (n + i) % 43) (by decide) (sgs_at hk) (ev_var rfl) (ev_var rfl)) (ev_var rfl) rv_niSign)) (fun hb H4 e4 => ?_) (fun hb H4 e4 => ?_)
      · refine ⟨⟨_, _, rfl, hk, ?_⟩, e3.trans e4⟩
        rw [Bool.not_eq_true'] at hb
        exact of_decide_eq_false hb
      · rw [Bool.not_eq_false'] at hb
        have hin := of_decide_eq_true hb
        refine s_asg (v := .int (((n + (i + 1)) % 43 : Nat) : Int)) (ev_is (ev_mod (j := 43) (by decide) (ev_int (ev_add (ev_var rfl) ev_c)) (ln rfl)) (by congr 1; omega)) fun H5 e5 => ⟨⟨_, rfl⟩, (e3.trans e4).trans e5, fun s h => ?_⟩
        by_cases c : s < i
        · exact hs s c
        · have : s = i := by omega
          rw [this]
          exact hin
    · intro σ' H' z2
      obtain ⟨_, _, hs⟩ := z2
      exact (seven (f := fun s => (n + s) % 43) sgs_nd (fun s _ => Nat.mod_lt _ (by decide)) (fun s u h1 h2 h3 => by
        have h3 : (n + s) % 43 = (n + u) % 43 := h3
        omega) hA.six fun s h => hs s (by
          show s < 7
          exact h)).elim
  intro σ' H' z2
  obtain ⟨⟨k, u4, rfl, hk, hout⟩, e3⟩ := z2
  exact s_ret (ev_ixS (i := k) (by decide) (sgs_at hk) (ev_var rfl) (ev_var rfl)) fun H4 e4 => q _ hout H4 (e3.trans e4)
theorem sv_str {al : List Nat} {z : Int} (hA : Alf al) {σ : L2.St} {H : Hp} {ta : TA} {E : XK} {Q : VK} (h : EvA ta σ H [tx al, .int z]) (k : ∀ c, c ∉ al → ∀ H1, Ex H H1 → Q (tx [c]) H1) : tCall spStr [] E ta σ H Q := h H (Ex.refl H) _ fun H1 e1 => ⟨al, z, rfl, hA, fun c hc H2 e2 => k c hc H2 (e1.trans e2)⟩
/-! ### _law_wider -/
def spWid : Sp := fun vs H Q _ => ∃ (al : List Nat) (z : Int), vs = [tx al, .int z] ∧ Alf al ∧ (al.length = 6 → RetV .non H Q) ∧ ∀ wl, Alf wl → wl ≠ al → (∀ c ∈ al, c ∈ wl) → RetV (tx wl) H Q
theorem has_wid (F : At K mg "_law_wider" s__law_wider) (T : Top K mg C_Round) : Has P w K mg base "_law_wider" s__law_wider ["abc", "turn"] 1 spWid := by
  obtain ⟨f, fd, F, m⟩ := F.ex
  refine ⟨f, fd, F, F.ok S__law_wider (fun vs H Q E h => ?_) (fun cdv A outer s H vs Q E hr h => ?_), F.binds fun _ _ _ _ _ _ us hl => match us, hl with | [_, _], _ => rfl, m, F.kp⟩
  · obtain ⟨al, z, rfl, _⟩ := h
    rfl
  obtain ⟨al, z, rfl, hA, q0, q⟩ := h
  refine ⟨_, (pss_cons
    (ps_if (pt_cmpR op_eq (pe_callB call_len_str rfl T.z_len PySem.boot_len (pa_cons (pv 0) pa_nil)) pe_int (nomark _)) (pss_one
    (ps_ret pe_non)) pss_nil)
    (pss_cons
    (ps_set (i := 2) S__law_wider.nd rfl (Or.inl rfl) pe_str)
    (pss_cons
    (ps_set (i := 3) S__law_wider.nd rfl (Or.inl rfl) (pe_op op_mod (pe_callTy call_int1 rfl T.z_int (by decide +kernel) (pa_cons (pv 1) pa_nil)) pe_int))
    (pss_cut
    (ps_for PassesOwn.never rfl (pi_range1 rfl T.z_range (pa_cons pe_int pa_nil)) (pg_name (i := 4) S__law_wider.nd rfl (Or.inl rfl)) (pss_cons
    (ps_if (pt_cmpR op_notIn_sign (pe_ix ix_str (pv 2) (pv 3) (fun _ _ => rfl)) (pv 0) rfl) (pss_one
    ps_break) pss_nil)
    (pss_one
    (ps_set (i := 3) S__law_wider.nd rfl (Or.inl rfl) (pe_op op_mod (pe_callTy call_int1 rfl T.z_int (by decide +kernel) (pa_cons (pe_op op_add (pv 3) pe_int) pa_nil)) pe_int)))))
    (pss_one
    (ps_ret (pe_join pe_str (pe_callB cr_sortedS rfl T.z_sorted (by decide +kernel) (pa_cons (pe_op op_cat (pe_callTy (call_listS rfl) rfl T.z_list (by decide +kernel) (pa_cons (pv 0) pa_nil)) (pe_lst (pa_cons (pe_ix ix_str (pv 2) (pv 3) (fun _ _ => rfl)) pa_nil))) pa_nil))))))))), ?_⟩
  have h6 := hA.six
  refine q_when (et_test (ev_op (ev_lenS (l := al) (by omega) (ev_var rfl)) ev_c (rv_eq rfl))) (fun hb H1 e1 => ?_) (fun hb H1 e1 => ?_)
  · have c : (al.length : Int) = 6 := by
      have hb : decide (V.int (al.length : Int) = V.int 6) = true := hb
      exact V.int.inj (of_decide_eq_true hb)
    exact s_ret ev_c fun H2 e2 => q0 (by omega) H2 (e1.trans e2)
  have c6 : al.length ≠ 6 := by
    intro c
    have hb : decide (V.int (al.length : Int) = V.int 6) = false := hb
    exact of_decide_eq_false hb (by rw [c]; rfl)
  refine q_asg (v := tx figs) (ev_is ev_c (by rw [figs_is])) fun H2 e2 => ?_
  obtain ⟨n, hn, en⟩ := int_mod (x := z) (n := 36) (by decide)
  refine q_asg (v := .int (n : Int)) (ev_is (ev_mod (j := 36) (by decide) (ev_int (ev_var rfl)) ev_c) (by rw [← en]; rfl)) fun H3 e3 => ?_
  have e13 := (e1.trans e2).trans e3
  refine q_cut (M := fun σ' H' => (∃ (k : Nat) (u4 : Option V), σ' = [some (tx al), some (.int z), some (tx figs), some (.int (k : Int)), u4] ∧ k < 36 ∧ figs.getD k 0 ∉ al) ∧ Ex H H') ?_ ?_
  · refine s_forR1 (n := 7) (ea_cons ev_c ea_nil) (by decide) (fun i σ' H' => (∃ u4, σ' = [some (tx al), some (.int z), some (tx figs), some (.int (((n + i) % 36 : Nat) : Int)), u4]) ∧ Ex H H' ∧ ∀ s, s < i → figs.getD ((n + s) % 36) 0 ∈ al) ?_ ?_ ?_
    · intro H4 e4
      exact ⟨⟨none, by rw [Nat.add_zero, Nat.mod_eq_of_lt hn]; rfl⟩, e13.trans e4, fun s hs => absurd hs (Nat.not_lt_zero _)⟩
    · intro i σ' H' hi z2
      obtain ⟨⟨u4, rfl⟩, e4, hs⟩ := z2
      have hk := Nat.mod_lt (n + i) (show 0 < 36 by decide)
      refine q_when (et_test (ev_op (ev_ixS (i := (n + i) % 36) (by decide) (figs_at hk) (ev_var rfl) (ev_var rfl)) (ev_var rfl) rv_niSign)) (fun hb H5 e5 => ?_) (fun hb H5 e5 => ?_)
      · refine ⟨⟨_, _, rfl, hk, ?_⟩, e4.trans e5⟩
        rw [Bool.not_eq_true'] at hb
        exact of_decide_eq_false hb
      · rw [Bool.not_eq_false'] at hb
        have hin := of_decide_eq_true hb
        refine s_asg (v := .int (((n + (i + 1)) % 36 : Nat) : Int)) (ev_is (ev_mod (j := 36) (by decide) (ev_int (ev_add (ev_var rfl) ev_c)) ev_c) (by congr 1; omega)) fun H6 e6 => ⟨⟨_, rfl⟩, (e4.trans e5).trans e6, fun s h => ?_⟩
        by_cases c : s < i
        · exact hs s c
        · have : s = i := by omega
          rw [this]
          exact hin
    · intro σ' H' z2
      obtain ⟨_, _, hs⟩ := z2
      exact (seven (f := fun s => (n + s) % 36) figs_nd (fun s _ => Nat.mod_lt _ (by decide)) (fun s u h1 h2 h3 => by
        have h3 : (n + s) % 36 = (n + u) % 36 := h3
        omega) hA.six fun s h => hs s (by
          show s < 7
          exact h)).elim
  intro σ' H' z2
  obtain ⟨⟨k, u4, rfl, hk, hout⟩, e4⟩ := z2
  have hms : ((al ++ [figs.getD k 0]).map fun c => tx [c]) = ((al ++ [figs.getD k 0]).map fun c => SX.S [c]).map V.str := by
    rw [List.map_map]
    rfl
  have ll : (al ++ [figs.getD k 0]).length = al.length + 1 := by
    rw [List.length_append]
    rfl
  have nd : (al ++ [figs.getD k 0]).Nodup := List.nodup_append.mpr ⟨hA.nd, by simp, fun x hx y hy e => hout (by rw [← List.mem_singleton.mp hy, ← e]; exact hx)⟩
  have inner := el_catL (el_listS (l := al) (ev_var (σ := [some (tx al), some (.int z), some (tx figs), some (.int (k : Int)), u4]) (H := H') (i := 0) rfl) (by omega)) (el_lst (vs := [tx [figs.getD k 0]]) (ea_cons (ev_ixS (i := k) (by decide) (figs_at hk) (ev_var (σ := [some (tx al), some (.int z), some (tx figs), some (.int (k : Int)), u4]) (H := H') (i := 2) rfl) (ev_var (i := 3) rfl)) ea_nil) (by show 1 ≤ 100000; decide)) (by rw [List.length_map]; show _ + 1 ≤ _; omega)
  refine s_retJoinX (inner H' (Ex.refl H') _ fun p H5 hp0 e5 g5 => ⟨p, (al ++ [figs.getD k 0]).map (fun c => SX.S [c]), rfl, sq_of (by rw [← hms, List.map_append]; exact g5), by rw [List.length_map]; omega, fun ys p2 hpm hs hpn => ?_⟩)
  rw [mt_is]
  obtain ⟨ds, rfl, hdp, hda⟩ := sorted_signs nd hpm hs
  have hdl := hdp.length_eq
  have hW : Alf ds := ⟨hda, by omega, by omega, fun c hc => by
    rcases List.mem_append.mp (hdp.mem_iff.mp hc) with h | h
    · exact hA.let' c h
    · rw [List.mem_singleton.mp h]
      exact figs_let _ (figs_mem hk)⟩
  have ej : (ds.map fun c => SX.S [c]) = (ds.map fun c => [c]).map SX.S := by
    rw [List.map_map]
    rfl
  have hfl : (ds.map fun c => [c]).flatten.length ≤ 100000 := by
    rw [flat_sing]
    omega
  refine join_ok (ps := ds.map fun c => [c]) (K := K) (.inl (sq_of (by rw [map_tx, ← ej]; exact upd_same))) hfl ?_
  rw [flat_sing]
  exact q ds hW (fun e => by rw [e] at hdl; omega) (fun c hc => hdp.mem_iff.mpr (List.mem_append_left _ hc)) _ ((e4.trans e5).trans (Ex.new hpn))
end
end Ver
namespace Ver
open PySem PySem.Spec PyProof.Rows L2 Evl
/-! ### promises of defs that ask what is under way (repr): kept where no guard is under way -/
structure FnG (P : Program) (w : World) (K : PySem.W.Frag) (mg : Str → Option Value) (bs : Heap) (C : CXT) (k : Nat) (f : Addr)
    (fd : FuncData) (ps : List Str) (sp : Sp) : Prop where
  lens : ∀ vs H Q E, sp vs H Q E → vs.length = ps.length
  runs : ∀ (A : Around) (ou : List Env) (s : Shared) (H : Hp) (ar : Args) (us : List Value) (vs : List V) (Q : VK) (E : XK),
    A.guards = some [] → Room k A → Env0 P w K mg bs A ou s H → BindsTo s fd ar (ps.zip us) → Vals vs us → sp vs H Q E →
      codeAny (model P w) A (.call (.ref f) ar) (CR C ou P w H s Q E) s
section
variable {P : Program} {w : World} {K : PySem.W.Frag} {mg : Str → Option Value} {bs : Heap} {C : CXT} {k : Nat} {f : Addr} {fd : FuncData} {ps : List Str} {sp : Sp}
theorem FnG.of (F : FnOk P w K mg bs C k f fd ps sp) : FnG P w K mg bs C k f fd ps sp :=
  ⟨F.len, fun A ou s H ar us vs Q E _ => F.run A ou s H ar us vs Q E⟩
theorem FnG.more {j : Nat} (F : FnG P w K mg bs C j f fd ps sp) (h : j ≤ k) : FnG P w K mg bs C k f fd ps sp :=
  ⟨F.lens, fun A ou s H ar us vs Q E g r => F.runs A ou s H ar us vs Q E g (r.mono h)⟩
/-- a def by its body, no guard under way -/
theorem fng_of {nm ql : Str} {pa : Arguments} {bd : List Stmt} {sc : Scope} {dV kV dc pm cdv ct oc : Value} {an od : Option Addr} {sl : Array (Option Value)} {N : List Str}
    (at_ : K.lookup f = some ⟨oc, od, .func (PySem.W.fnOf nm ql pa bd sc dV kV dc pm an cdv ct), sl⟩) (co : PySem.W.codeIn K cdv ql = true) (S : FnScope N ps sc)
    (ln : ∀ vs H Q E, sp vs H Q E → vs.length = ps.length)
    (body : ∀ (A : Around) (ou : List Env) (s : Shared) (H : Hp) (vs : List V) (Q : VK) (E : XK), A.guards = some [] →
      Room k (A.deeper (envOfC ql sc s.heap.objs.size f cdv)) → sp vs H Q E →
      ∃ t, PSs (cxOf C P w K mg bs N ql sc f cdv A ou s H E) bd t ∧ t { nx := fun _ H' => Q .non H', rt := Q } (L2.start N vs) H) :
    FnG P w K mg bs C (k + 1) f (PySem.W.fnOf nm ql pa bd sc dV kV dc pm an cdv ct) ps sp := by
  refine ⟨ln, fun A ou s H ar us vs Q E g room env binds vals said => ?_⟩
  have inK : K.In s.heap := env.mod.kin.keeps fun b o e => (env.bs b o e).1
  have noLim : s.heap.NoLimit := env.mod.nolimit.keeps fun b o e => (env.bs b o e).1
  have places : ∀ y ∈ ps.zip us, sc.names.lookup y.1 = some .local ∨
      (sc.names.lookup y.1 = some .cell ∧ ((cellsFrom (s.heap.objs.size + 1) sc.names []).lookup y.1).isSome = true) := by
    rintro ⟨n, v⟩ hy
    rcases S.par n (List.of_mem_zip hy).1 with q | q
    · exact Or.inl q
    · exact Or.inr ⟨q, PySem.W.cellsFrom_some _ _ _ (.inl q)⟩
  refine codeAny_call_function room.depth (inK _ _ at_) rfl S.co S.gen rfl (PySem.W.codeRec_of inK co) (binds _ _ _ _ ?_)
  refine wpAny_newFunctionEnv_cells S.kind places ?_
  rintro en rfl s1 x
  refine ⟨noLim.keeps x.toInCall.keep, codeAny_func ?_⟩
  obtain ⟨t, ht, hq⟩ := body A ou s H vs Q E g (room.deeper _) said
  have inv := inv_start (CX := C) (E := E) S room.hd env (ln _ _ _ _ said) vals x
  refine wpAny_mono (ht.run [] s1 (L2.start N vs) H _ inv hq) ?_ (fun e s' hs => hs)
  intro fl s' hs
  cases fl with
  | brk =>
    obtain ⟨_, _, _, z⟩ := hs
    exact z.elim
  | cont =>
    obtain ⟨_, _, _, z⟩ := hs
    exact z.elim
  | next =>
    obtain ⟨σ', H', J, q⟩ := hs
    exact ⟨V.non, H', J.os, J.bare, J.base, J.hok, rfl, q⟩
  | ret u =>
    obtain ⟨y, σ9, H9, J, rv, z⟩ := hs
    exact ⟨y, H9, J.os, J.bare, J.base, J.hok, rv, z⟩
/-- as ok of the layer, no guard under way -/
theorem okG {x ql : Str} {st : Stmt} {N : List Str} (F : Fun K x ql st f fd) (S : FnScope N ps (defScope st)) (ln : ∀ vs H Q E, sp vs H Q E → vs.length = ps.length)
    (body : ∀ (cdv : Value) (A : Around) (ou : List Env) (s : Shared) (H : Hp) (vs : List V) (Q : VK) (E : XK), A.guards = some [] →
      Room k (A.deeper (envOfC ql (defScope st) s.heap.objs.size f cdv)) → sp vs H Q E →
      ∃ t, PSs (cxOf CX0 P w K mg bs N ql (defScope st) f cdv A ou s H E).nox (defBody st) t ∧ t { nx := fun _ H' => Q .non H', rt := Q } (L2.start N vs) H) :
    FnG P w K mg bs CX0 (k + 1) f fd ps sp := by
  obtain ⟨_, _, _, _, _, _, cdv, _, _, rfl, lk, hc⟩ := F.ex
  refine fng_of lk hc S ln fun A ou s H vs Q E g room said => ?_
  obtain ⟨t, ht, q⟩ := body cdv A ou s H vs Q E g room said
  exact ⟨t, ht.nox, q⟩
end
def HasG (P : Program) (w : World) (K : PySem.W.Frag) (mg : Str → Option Value) (bs : Heap) (x : Str) (st : Stmt) (ps : List Str) (k : Nat) (sp : Sp) : Prop :=
  ∃ f fd, Fun K x x st f fd ∧ FnG P w K mg bs CX0 k f fd ps sp ∧ Binds K fd ps [] ∧ mg x = some (.ref f) ∧ PySem.W.keepIn K (.ref f) = true
section
variable {X : Cx} {C : CXT} {k : Nat} {f : Addr} {fd : FuncData} {ps : List Str} {sp : Sp} {dvs : List V} {ds : List Value} {E : XK} {x : Str} {p pos : Pos} {e : Expr} {es : List Expr} {t : TA}
/-- a call of such a def, out of a body with no guard under way -/
theorem pe_callG (g : X.A.guards = some []) (F : FnG X.prog X.w X.K X.mg X.base C k f fd ps sp) (room : Room k X.A) (hg : Gl X x) (hm : X.mg x = some (.ref f)) (hk : PySem.W.keepIn X.K (.ref f) = true)
    (hb : Binds X.K fd ps ds) (hd : Vals dvs ds) (hx : Passes C X E) (ha : PA X (e :: es) t) (nd : (x == ("__debug__" : Str)) = false := by decide)
    (h1 : starEach (e :: es) X.env = (false, eval e X.env) :: starEach es X.env := by rfl) (h2 : (backTo pos (starEach es X.env)).any (·.1) = false := by rfl) :
    PE X (.Call (.Name x p) (e :: es) [] pos) (tCall sp dvs E t) := ⟨fun pins s σ H Q I h => by
  refine wpAny_Call_Name_kw (ld_glob I hg hm ?_ nd)
  refine PySem.W.callWith_K (h₀ := X.base) I.ok.mod.kin hk (thn (ha.run pos pins s σ H _ I h) ?_) h1 h2
  rintro us s1 ⟨vs, H1, I1, r, q⟩
  refine ⟨I1.kIn, ?_⟩
  have r2 : Vals (vs ++ dvs) (us ++ ds) := r.append hd
  have l2 : (us ++ ds).length = ps.length := r2.length.symm.trans (F.lens _ _ _ _ q)
  refine wpAny_call (codeAny_mono (F.runs X.A X.stack s1 H1 ⟨us, []⟩ (us ++ ds) (vs ++ dvs) Q E g room I1.env0 (hb s1 us I1.kIn l2) r2 q) ?_)
  intro r s' hq
  match r, hq with
  | .error e, hq => exact hx pins σ H1 s1 e s' I1 hq
  | .ok (.ret u), hq => exact I1.after hq⟩
/-! ### repr of data -/
theorem call_reprD (g : X.A.guards = some []) (hu : X.A.units + 64 < cLine) : CallR X (.builtin "repr") (fun xs H Q => ∃ (a : Addr) (d : PyData), xs = [.ref a] ∧ Dp X.K H (.ref a) d ∧ d.showable = true ∧ d.hasDict = false ∧ d.depth ≤ 20 ∧ d.shown.length ≤ sizeLine ∧ Q (.str d.shown) H) := by
  intro pn s σ H xs us Q I r h
  obtain ⟨a, d, rfl, hd, hs, hn, hp, hz, q⟩ := h
  match us, r with
  | [u], .cons r1 .nil =>
    cases r1
    obtain ⟨as, rd⟩ := Dp.reads I d _ _ hd rfl
    refine repr_of_reads' rd hs (fun z => by rw [hn] at z; cases z) g (by omega) (fun _ _ z => z) (fun h' u tk keep => ?_) hz
    exact ⟨.str d.shown, H, I.kept keep, ⟨u, rfl⟩, q⟩
end
end Ver
namespace Ver
open PySem PySem.Spec PyProof.Rows L2 Evl
/-! ### the law's own call: callerA has no guard under way -/
section
variable {P : Program} {w : World} {K : PySem.W.Frag} {mg mb : Str → Option Value} {k : Nat} {fa a : Addr} {fd : FuncData} {x : Str} {sp : Sp} {s1 : Shared} {vs : List Value} {ns : List Int}
/-- out of an abstract heap that tracks the script at most -/
theorem law_fromG (KX : K.In s1.heap) (hns : s1.heap.Ns mainGlobals mg) (hb : s1.heap.Ns builtinsNs mb) (hbb : ∀ y : Str, y ≠ "__name__" → mb y = bootBuiltins y) (lim : s1.heap.NoLimit) (gs : s1.gens = #[])
    (ha : s1.heap.get? a = some { cls := .type "list", data := .seq vs.toArray }) (room : Room k callerA)
    (F : ∀ bs : Heap, K.In bs → bs.Ns mainGlobals mg → FnG P w K mg bs CX0 k fa fd [x] sp) (bind : ∀ (s : Shared) (u : Value), BindsTo s fd ⟨[u], []⟩ [(x, u)])
    (H : Hp) (only : L2.Only H) (said : sp [.ref a] H (fun v _ => v = .bl true) fun _ _ _ => False) (hok : HOk P w H s1.heap) (one : ∀ b, H b ≠ none → b = a) (own : H a ≠ none → K.lookup a = none) :
    codeAny (model P w) callerA (.call (.ref fa) ⟨[.ref a], []⟩) (fun r s' => r = .ok (.ret (.bool true)) ∧ OldK s1.heap s'.heap ∧ s'.os = s1.os ∧ AllBare s'.gens) s1 := by
  have free : ∀ b, b ≠ a → H b = none := fun b hb => Classical.byContradiction fun z => hb (one b z)
  have kept : ∀ {b : Addr} {m : Str → Option Value}, s1.heap.Ns b m → (hidT s1.heap H).Ns b m := by
    rintro b m ⟨o, es, ep, h1, h2, h3⟩
    refine ⟨o, es, ep, hidT_get h1 (free b fun z => ?_), h2, h3⟩
    subst z
    rw [ha] at h1
    cases h1
    cases (show Data.seq vs.toArray _ = Data.dict es ep from h2)
  have inB : K.In (hidT s1.heap H) := fun b o e => by
    refine hidT_get (KX b o e) (Classical.byContradiction fun z => ?_)
    have hba := one b z
    subst hba
    rw [own z] at e
    cases e
  have md : Mod K mg (hidT s1.heap H) := by
    obtain ⟨mc, l1, l2⟩ := lim
    exact ⟨inB, kept hns, ⟨mb, kept hb, hbb⟩, mc, kept l1, l2⟩
  have env : Env0 P w K mg (hidT s1.heap H) callerA [] s1 H := by
    refine ⟨rfl, md, fun b o z => of_hidT z, Nat.le_of_eq (hidT_size _ _), trivial, fun b z => ?_, hok, .of_eq gs⟩
    exact absurd (show b ∈ ([] : List Addr) from z) List.not_mem_nil
  have run := (F _ inB (kept hns)).runs callerA [] s1 H ⟨[.ref a], []⟩ [.ref a] [.ref a] _ _ rfl room env (bind s1 (.ref a)) (.cons rfl .nil) said
  refine codeAny_mono run ?_
  intro r s' h
  match r, h with
  | .error e, h => exact h.elim
  | .ok (.ret u), h =>
    obtain ⟨v, H', os, bare, un, ok2, rv, hv⟩ := h
    have hv : v = .bl true := hv
    subst hv
    obtain rfl : u = Value.bool true := rv
    refine ⟨rfl, OldK.of_keep fun b o z => ?_, os, bare⟩
    by_cases c : H b = none
    · exact un.keep b o z c (fun y => absurd (show b ∈ ([] : List Addr) from y) List.not_mem_nil) List.not_mem_nil
    · rcases only b with y | ⟨ob, xs, y⟩
      · exact absurd y c
      · have y2 := un.frzs b ob _ y
        have f1 := (hok b _ y).1
        have f2 := (ok2 b _ y2).1
        rw [z] at f1
        cases f1
        exact f2
theorem law_goG (KX : K.In s1.heap) (hns : s1.heap.Ns mainGlobals mg) (hb : s1.heap.Ns builtinsNs mb) (hbb : ∀ y : Str, y ≠ "__name__" → mb y = bootBuiltins y) (lim : s1.heap.NoLimit) (gs : s1.gens = #[])
    (ha : s1.heap.get? a = some { cls := .type "list", data := .seq vs.toArray }) (hints : IntsAre vs ns) (hl : ns.length ≤ sizeLine) (room : Room k callerA)
    (F : ∀ bs : Heap, K.In bs → bs.Ns mainGlobals mg → FnG P w K mg bs CX0 k fa fd [x] sp) (bind : ∀ (s : Shared) (u : Value), BindsTo s fd ⟨[u], []⟩ [(x, u)])
    (said : ∀ H : Hp, L2.Only H → SqL K H a (ns.map V.int) → sp [.ref a] H (fun v _ => v = .bl true) fun _ _ _ => False) :
    codeAny (model P w) callerA (.call (.ref fa) ⟨[.ref a], []⟩) (fun r s' => r = .ok (.ret (.bool true)) ∧ OldK s1.heap s'.heap ∧ s'.os = s1.os ∧ AllBare s'.gens) s1 := by
  have rv := L2.vals_ints hints
  have len := hints.length
  by_cases c : K.lookup a = none
  · let o : Obj := { cls := .type "list", data := .seq vs.toArray }
    let H : Hp := fun b => if b = a then some (.frz o (.lst (ns.map V.int))) else none
    have at_ : H a = some (.frz o (.lst (ns.map V.int))) := if_pos rfl
    have no_ : ∀ b, b ≠ a → H b = none := fun b z => if_neg z
    have only : L2.Only H := fun b => by
      by_cases z : b = a
      · subst z
        exact .inr ⟨_, _, at_⟩
      · exact .inl (no_ b z)
    refine law_fromG KX hns hb hbb lim gs ha room F bind H only (said H only (.inl (.inr ⟨o, at_⟩))) (fun b u z => ?_) (fun b z => Classical.byContradiction fun y => z (no_ b y)) fun _ => c
    by_cases y : b = a
    · subst y
      rw [at_] at z
      cases z
      exact ⟨ha, by rw [List.length_map]; exact hl, vs, _, rv, ha⟩
    · rw [no_ b y] at z
      cases z
  · obtain ⟨o, ho⟩ := Option.ne_none_iff_exists'.mp c
    have z := KX a o ho
    rw [ha] at z
    cases z
    refine law_fromG KX hns hb hbb lim gs ha room F bind (fun _ => none) (fun _ => .inl rfl) (said _ (fun _ => .inl rfl) ?_) (fun b u z => by cases z) (fun b z => absurd rfl z) fun z => absurd rfl z
    exact .inr ⟨_, vs.toArray, _, ho, rfl, rfl, rfl, by rw [List.size_toArray, len]; exact hl, by simpa using rv⟩
end
/-- the end, from the law's promise where no guard is under way -/
theorem walkG {l : PySem.W.OpenLaw} {n k : Nat} {q : Program} {loose : List Str} {XP : (Str → Option Value) → Heap → Prop} {YP : World → Heap → Prop} {d : DefRec} {K : Params → PySem.W.Frag} {sp : World → Sp} {x : Str}
    (most : l.most = some n) (hn : n ≤ sizeLine) (nodef : d.params.defaults = []) (room : Room k callerA) (inK : ∀ (w : World) (h : Heap), YP w h → (K w.params).In h)
    (F : ∀ (w : World) (mg : Str → Option Value) (fa : Addr) (h : Heap), (K w.params).In h → h.Ns mainGlobals mg → mg d.name = some (.ref fa) →
      ∃ fd : FuncData, (∀ (s : Shared) (u : Value), BindsTo s fd ⟨[u], []⟩ [(x, u)]) ∧ ∀ bs : Heap, (K w.params).In bs → bs.Ns mainGlobals mg → FnG l.prog w (K w.params) mg bs CX0 k fa fd [x] (sp w))
    (said : ∀ (w : World) (H : Hp) (a : Addr) (ns : List Int), ns.length ≤ n → L2.Only H → SqL (K w.params) H a (ns.map V.int) → sp w [.ref a] H (fun v _ => v = .bl true) fun _ _ _ => False) :
    PySem.W.WalkO q loose XP YP l.row.toRowW d [] (fun f vs => PySem.call f vs) := by
  refine Att.attach_call most nodef ?_
  intro w s0 s1 mg mb fa o pm cd doc a vs ns G Y ho hd hcd hmg hobj hints hlen hg
  obtain ⟨fd, hb, hF⟩ := F w mg fa _ (inK w _ Y) G.T.g hmg
  exact law_goG (inK w _ Y) G.T.g G.T.b G.T.builtins G.T.nolimit hg hobj hints (Nat.le_trans hlen hn) room hF hb fun H hO hS => said w H a ns hlen hO hS
end Ver
namespace Ver
open PySem PySem.Spec PyProof.Rows L2 Evl
/-! ### repr of lists of ints -/
def shw (ns : List Int) : Str := (PyData.list (ns.map .int)).shown
theorem nodict_ints : ∀ ns : List Int, PyData.hasDictAll (ns.map PyData.int) = false
  | [] => rfl
  | n :: r => by
    show (false || PyData.hasDictAll (r.map PyData.int)) = false
    rw [nodict_ints r]
    rfl
theorem show_ints : ∀ ns : List Int, (∀ n ∈ ns, n.natAbs.log2 < 1920) → PyData.showableAll (ns.map PyData.int) = true
  | [], _ => rfl
  | n :: r, h => by
    show (decide (n.natAbs.log2 < 1920) && PyData.showableAll (r.map PyData.int)) = true
    rw [decide_eq_true (h n List.mem_cons_self), show_ints r fun m hm => h m (List.mem_cons_of_mem _ hm)]
    rfl
theorem log_small {n : Int} (h : n.natAbs < 10 ^ 50) : n.natAbs.log2 < 1920 := by
  by_cases c : n.natAbs = 0
  · rw [c]
    decide
  · refine (Nat.log2_lt c).mpr ?_
    have : (10 : Nat) ^ 50 < 2 ^ 1920 := by decide +kernel
    omega
theorem short_ints : ∀ ns : List Int, (∀ n ∈ ns, n.natAbs < 10 ^ 50) → PyData.leavesShortAll 60 (ns.map PyData.int) = true
  | [], _ => rfl
  | n :: r, h => by
    show (decide ((PyData.shown (.int n)).length ≤ 60) && PyData.leavesShortAll 60 (r.map PyData.int)) = true
    have h1 : (PyData.shown (.int n)).length ≤ 60 := by
      have e := int_text_length_le10 (k := 50) (by decide) (h n List.mem_cons_self)
      show (Str.ofString (toString n)).length ≤ 60
      rw [PySem.ofString_length]
      omega
    rw [decide_eq_true h1, short_ints r fun m hm => h m (List.mem_cons_of_mem _ hm)]
    rfl
theorem weigh_ints : ∀ ns : List Int, (∀ n ∈ ns, n.natAbs < 10 ^ 50) → PyData.weightAll (ns.map PyData.int) ≤ 170 * ns.length
  | [], _ => by simp [PyData.weightAll]
  | n :: r, h => by
    have ih := weigh_ints r fun m hm => h m (List.mem_cons_of_mem _ hm)
    have h1 : (if n == 0 then 0 else n.natAbs.log2 + 1) ≤ 168 := by
      split
      · omega
      · rename_i c
        have hn : n.natAbs ≠ 0 := fun z => c (by rw [Int.natAbs_eq_zero.mp z]; rfl)
        have : n.natAbs.log2 < 167 := (Nat.log2_lt hn).mpr (Nat.lt_trans (h n List.mem_cons_self) (by decide +kernel))
        omega
    simp only [List.map_cons, PyData.weightAll, PyData.weight, List.length_cons]
    omega
section
variable {K : PySem.W.Frag} {σ : L2.St} {H : Hp} {tl : TE}
abbrev rReprD (K : PySem.W.Frag) : List V → Hp → VK → Prop := fun xs H Q => ∃ (a : Addr) (d : PyData), xs = [.ref a] ∧ Dp K H (.ref a) d ∧ d.showable = true ∧ d.hasDict = false ∧ d.depth ≤ 20 ∧ d.shown.length ≤ sizeLine ∧ Q (.str d.shown) H
theorem repr_ok {p : Addr} {ns : List Int} {Q : VK} (hs : SqL K H p (ns.map V.int)) (hn : ∀ n ∈ ns, n.natAbs < 10 ^ 50) (hl : ns.length ≤ 1000) (q : Q (.str (shw ns)) H) : rReprD K [.ref p] H Q := by
  refine ⟨p, .list (ns.map .int), rfl, .lst hs (dp_ints ns), ?_, ?_, ?_, ?_, q⟩
  · simpa only [PyData.showable] using show_ints ns fun n hm => log_small (hn n hm)
  · simpa only [PyData.hasDict] using nodict_ints ns
  · simp only [PyData.depth, deep_ints ns]
    omega
  · have h := PyData.shown_le 60 (by decide) (.list (ns.map .int)) (by simpa only [PyData.leavesShort] using short_ints ns hn)
    have hw := weigh_ints ns hn
    have h2 : (60 + 2) * (PyData.list (ns.map .int)).weight ≤ 62 * (170 * ns.length) := Nat.mul_le_mul_left _ (by
      simp only [PyData.weight]
      omega)
    refine Nat.le_trans h (Nat.le_trans ?_ (show 11000000 ≤ sizeLine by decide))
    omega
theorem ev_reprN {ns : List Int} (h : EvL tl σ H (ns.map V.int)) (hn : ∀ n ∈ ns, n.natAbs < 10 ^ 50) (hl : ns.length ≤ 1000) : Ev (tCB (rReprD K) (tCons tl tNil)) σ H (.str (shw ns)) := fun H1 e Q q =>
  h H1 e _ fun p H2 _ e2 g2 => repr_ok (sq_of g2) hn hl (q H2 e2)
end
end Ver
namespace Ver
open PySem PySem.Spec PyProof.Rows L2 Evl
def Z7 : List Int := [12, 36, 36, 36, 36, 36, 36]
def Z8 : List Int := [16, 9, 9, 61, 61, 10, 61, 60]
def Z60 : List Int := List.replicate 60 6
def Z31 : List Int := [32] ++ List.replicate 30 10
theorem z7_ok : ∀ i, i < 7 → 0 < at0 Z7 i ∧ at0 Z7 i < 18446744073709551616 := by decide +kernel
theorem z8_ok : ∀ i, i < 8 → 0 < at0 Z8 i ∧ at0 Z8 i < 18446744073709551616 := by decide +kernel
theorem z60_ok : ∀ i, i < 60 → 0 < at0 Z60 i ∧ at0 Z60 i < 18446744073709551616 := by decide +kernel
theorem z31_ok : ∀ i, i < 31 → 0 < at0 Z31 i ∧ at0 Z31 i < 18446744073709551616 := by decide +kernel
theorem flat_one' {x : V} : ∀ n, (List.replicate n [x]).flatten = List.replicate n x
  | 0 => rfl
  | n + 1 => by
    rw [List.replicate_succ, List.flatten_cons, flat_one' n]
    rfl
theorem map_rep' {z : Int} {n : Nat} : (List.replicate n z).map V.int = List.replicate n (V.int z) := List.map_replicate
theorem w_rw (c : Int) : WRw (digits c Z8) := by
  have h := fun i (hi : i < 8) => digits_at (c := c) (ss := Z8) (i := i) hi (z8_ok i hi).1
  have v : ∀ i, i < 8 → at0 (digits c Z8) i < at0 Z8 i := fun i hi => (h i hi).2
  exact ⟨by rw [digits_len]; rfl, fun i hi => (h i hi).1, by have := v 1 (by decide); have e : at0 Z8 1 = 9 := rfl; omega, by have := v 2 (by decide); have e : at0 Z8 2 = 9 := rfl; omega, by have := v 3 (by decide); have e : at0 Z8 3 = 61 := rfl; omega, by have := v 4 (by decide); have e : at0 Z8 4 = 61 := rfl; omega,
    by have := v 5 (by decide); have e : at0 Z8 5 = 10 := rfl; omega, by have := v 6 (by decide); have e : at0 Z8 6 = 61 := rfl; omega⟩
theorem gi_row (c : Int) : (digits c Z31).length = 31 ∧ (0 ≤ at0 (digits c Z31) 0 ∧ at0 (digits c Z31) 0 < 32) ∧ ∀ k, k < 31 → 0 ≤ at0 (digits c Z31) k := by
  have h := fun i (hi : i < 31) => digits_at (c := c) (ss := Z31) (i := i) hi (z31_ok i hi).1
  exact ⟨by rw [digits_len]; rfl, h 0 (by decide), fun k hk => (h k hk).1⟩
theorem giv_le (c : Int) : giv (digits c Z31) ≤ 10 ^ 30 := by
  have h := fun i (hi : i < 31) => digits_at (c := c) (ss := Z31) (i := i) hi (z31_ok i hi).1
  have h10 : ∀ i, i < 31 → 1 ≤ i → at0 Z31 i = 10 := by decide +kernel
  unfold giv
  split
  · exact Nat.le_refl _
  · rename_i c31
    have h0 := h 0 (by decide)
    have e0 : at0 Z31 0 = 32 := rfl
    have lt := gnm_lt (r := digits c Z31) (at0 (digits c Z31) 0).toNat fun k h1 h2 => by
      have h3 := (h k (by omega)).2
      rw [h10 k (by omega) h1] at h3
      omega
    have up : (10 : Nat) ^ (at0 (digits c Z31) 0).toNat ≤ 10 ^ 30 := Nat.pow_le_pow_right (by decide) (by omega)
    omega
theorem vals_rev : ∀ {zs : List V} {ws : List Value}, Vals zs ws → Vals zs.reverse ws.reverse
  | _, _, .nil => .nil
  | _, _, .cons h t => by
    rw [List.reverse_cons, List.reverse_cons]
    exact Vals.append (vals_rev t) (.cons h .nil)
abbrev iv (n : Nat) : V := V.int (n : Int)
section
variable {P : Program} {w : World} {K : PySem.W.Frag} {mg : Str → Option Value} {base : Heap} {C_Round : Addr}
theorem kb_two {x : Str} {st : Stmt} {a b : Str} {f : Addr} {fd : FuncData} (F : Fun K x x st f fd) (h : ∀ (kV doc pm : Value) (an : Option Addr) (cdv ct u v : Value), bindArgs (PySem.W.fnOf x x (defArgs st) (defBody st) (defScope st) .none kV doc pm an cdv ct) ⟨[], [(b, v), (a, u)]⟩ = pure [(a, u), (b, v)]) : KBn K fd [a, b] 0 [b, a] (fun _ ws => ws.reverse) (fun _ ws => ws.reverse) := by
  obtain ⟨oc, od, kV, doc, pm, an, cdv, ct, osl, rfl, lk, hcd⟩ := F.ex
  refine ⟨fun s us ws X l1 l2 => ?_, fun r1 r2 => vals_rev r2⟩
  match us, ws, l1, l2 with
  | [], [v, u], _, _ => exact .of_eq (h kV doc pm an cdv ct u v)
section
variable {σ : L2.St} {H : Hp} {t1 t2 t3 t4 tl : TE} {sp : Sp} {E : XK} {x1 x2 x4 y z : V} {xs dvs : List V} {Q : VK}
theorem run_cEL (hl : EvL tl σ H xs) (h2 : ∀ H1, Ex H H1 → Ev t2 σ H1 y) (k : ∀ p H1, Ex H H1 → H1 p = some (.lst xs) → sp ([.ref p, y] ++ dvs) H1 Q E) : tCall sp dvs E (tCons tl (tCons t2 tNil)) σ H Q :=
  hl H (Ex.refl H) _ fun p H1 _ e1 g1 => h2 H1 e1 H1 (Ex.refl H1) _ fun H2 e2 => k p H2 (e1.trans e2) (e2 _ _ g1)
theorem run_cEEL (h1 : Ev t1 σ H x1) (h2 : Ev t2 σ H x2) (hl : EvL tl σ H xs) (k : ∀ p H1, Ex H H1 → H1 p = some (.lst xs) → sp ([x1, x2, .ref p] ++ dvs) H1 Q E) : tCall sp dvs E (tCons t1 (tCons t2 (tCons tl tNil))) σ H Q :=
  h1 H (Ex.refl H) _ fun H1 e1 => h2 H1 e1 _ fun H2 e2 => hl H2 (e1.trans e2) _ fun p H3 _ e3 g3 => k p H3 ((e1.trans e2).trans e3) g3
theorem ev_c4L (h1 : Ev t1 σ H x1) (h2 : Ev t2 σ H x2) (h3 : EvL t3 σ H xs) (h4 : ∀ H1, Ex H H1 → Ev t4 σ H1 x4) (hs : ∀ p H1, Ex H H1 → H1 p = some (.lst xs) → SpV sp ([x1, x2, .ref p, x4] ++ dvs) H1 z) : Ev (tCall sp dvs E (tCons t1 (tCons t2 (tCons t3 (tCons t4 tNil))))) σ H z := fun H0 e Q q =>
  h1 H0 e _ fun H1 e1 => h2 H1 (e.trans e1) _ fun H2 e2 => h3 H2 ((e.trans e1).trans e2) _ fun p H3 _ e3 g3 => h4 H3 (((e.trans e1).trans e2).trans e3) H3 (Ex.refl H3) _ fun H4 e4 =>
    hs p H4 ((((e.trans e1).trans e2).trans e3).trans e4) (e4 _ _ g3) H4 (Ex.refl H4) Q (fun H5 e5 => q H5 ((((e1.trans e2).trans e3).trans e4).trans e5)) E
end
end
end Ver
namespace Ver
open PySem PySem.Spec PyProof.Rows L2 Evl
/-! ### pairs as data -/
def pd (r : Nat × Nat) : PyData := .tuple [.int (r.1 : Int), .str (SX.S [r.2])]
theorem pd_shaped (r : Nat × Nat) (h : r.2 < 1114112) : SeqAt.shaped (pd r) = true := by
  show (PyData.canLay0 _ && decide (PyData.depth _ ≤ 64)) = true
  have hs : PyData.strOk (SX.S [r.2]) = true := by
    unfold PyData.strOk
    simpa using h
  simp [pd, PyData.canLay0, PyData.canLayAll0, PyData.depth, PyData.depthAll, hs]
theorem pd_eqv (a b : Nat × Nat) : PyData.eqv (pd a) (pd b) = decide (a = b) := by
  obtain ⟨a1, a2⟩ := a
  obtain ⟨b1, b2⟩ := b
  show ((((a1 : Int) == (b1 : Int)) && ((SX.S [a2] == SX.S [b2]) && true)) = _)
  rw [Bool.and_true, SX.S_beq_eq, Bool.eq_iff_iff, Bool.and_eq_true, beq_iff_eq, decide_eq_true_eq, decide_eq_true_eq]
  constructor
  · rintro ⟨h1, h2⟩
    have := (List.cons.inj h2).1
    exact Prod.ext (by show a1 = b1; omega) this
  · intro h
    cases h
    exact ⟨rfl, rfl⟩
theorem pd_alike (a b : Nat × Nat) : PySem.W.alike (pd a) (pd b) = true := by
  simp [pd, PySem.W.alike, PySem.W.alikeAll]
theorem pd_lt (a b : Nat × Nat) : PySem.W.dataLt (pd a) (pd b) = rltb a b := by
  obtain ⟨a1, a2⟩ := a
  obtain ⟨b1, b2⟩ := b
  show PyProof.Rows.lexLt itemOrd (PySem.W.keyToksAll [.int (a1 : Int), .str (SX.S [a2])]) (PySem.W.keyToksAll [.int (b1 : Int), .str (SX.S [b2])]) = _
  unfold rltb
  by_cases h : a1 = b1
  · subst h
    rw [PySem.W.dataLt_all_yes (by simp [PySem.W.alike]) (by simp [PyData.eqv])]
    by_cases g : a2 = b2
    · subst g
      rw [PySem.W.dataLt_all_yes (by simp [PySem.W.alike]) (by show (SX.S [a2] == SX.S [a2]) = true; simp)]
      simp [PySem.W.keyToksAll, PyProof.Rows.lexLt, itemLt]
    · rw [PySem.W.dataLt_all_no (by simp [PySem.W.alike]) (by show (SX.S [a2] == SX.S [b2]) = false; rw [SX.S_beq_eq]; exact decide_eq_false fun q => g (List.cons.inj q).1), PySem.W.dataLt_str]
      refine decide_eq_decide.mpr ?_
      show ([a2] : List Nat) < [b2] ↔ _
      constructor
      · intro h
        cases h with
        | rel h => exact .inr ⟨rfl, h⟩
        | cons h => cases h
      · rintro (h | h)
        · exact absurd h (Nat.lt_irrefl _)
        · exact List.Lex.rel h.2
  · rw [PySem.W.dataLt_all_no (by simp [PySem.W.alike]) (by show ((a1 : Int) == (b1 : Int)) = false; simp; omega), PySem.W.dataLt_int]
    refine decide_eq_decide.mpr ?_
    show (a1 : Int) < (b1 : Int) ↔ (a1 < b1 ∨ a1 = b1 ∧ a2 < b2)
    omega
end Ver
namespace Ver
open PySem PySem.Spec PyProof.Rows L2 Evl
/-! ### == and != of like data -/
section
variable {K : PySem.W.Frag} {H : Hp}
theorem rv_isV {r : R2} {x y z z' : V} (h : RV r x y H z) (e : z = z') : RV r x y H z' := by
  rw [← e]
  exact h
theorem eqv_self {d : PyData} (h : SeqAt.shaped d = true) : PyData.eqv d d = true := SeqAt.eqv_refl _ (SeqAt.canLay_of_shaped h)
theorem rv_neSame {x y : V} {d : PyData} (h : SeqAt.shaped d = true) (h1 : ∀ H1, Ex H H1 → Dp K H1 x d) (h2 : ∀ H1, Ex H H1 → Dp K H1 y d) : RV (rNeD K) x y H (.bl false) := fun H1 e Q q =>
  ⟨d, d, h1 H1 e, h2 H1 e, h, h, by rw [eqv_self h]; exact q H1 (Ex.refl H1)⟩
theorem rv_eqSame {x y : V} {d : PyData} (h : SeqAt.shaped d = true) (h1 : ∀ H1, Ex H H1 → Dp K H1 x d) (h2 : ∀ H1, Ex H H1 → Dp K H1 y d) : RV (rEqD K) x y H (.bl true) := fun H1 e Q q =>
  ⟨d, d, h1 H1 e, h2 H1 e, h, h, by rw [eqv_self h]; exact q H1 (Ex.refl H1)⟩
theorem dp_txs : ∀ ss : List (List Nat), DpAll K H (ss.map tx) (ss.map fun s => PyData.str (SX.S s))
  | [] => .nil
  | s :: ss => .cons (.str _) (dp_txs ss)
theorem dp_row {r : Addr} {q : Nat × Nat} (h : H r = some (.tup [.int (q.1 : Int), tx [q.2]])) : Dp K H (.ref r) (pd q) := .tup (st_of h) (.cons (.int _) (.cons (.str _) .nil))
theorem dp_rows : ∀ (xs : List V) (rs : Rw), RowsAt H xs rs → DpAll K H xs (rs.map pd)
  | [], [], _ => .nil
  | [], _ :: _, h => by
    have := h.len
    cases this
  | _ :: _, [], h => by
    have := h.len
    cases this
  | x :: xs, q :: rs, h => by
    obtain ⟨r, e1, e2⟩ := h.row 0 q.1 q.2 rfl
    have : x = V.ref r := Option.some.inj e1
    subst this
    refine .cons (dp_row e2) (dp_rows xs rs ⟨by have := h.len; simpa using this, fun i p c e => ?_⟩)
    exact h.row (i + 1) p c e
theorem lay_all : ∀ ds : List PyData, (∀ d ∈ ds, PyData.canLay0 d = true) → PyData.canLayAll0 ds = true
  | [], _ => by simp [PyData.canLayAll0]
  | d :: ds, h => by
    rw [PyData.canLayAll0, h d (List.mem_cons_self ..), lay_all ds fun x hx => h x (List.mem_cons_of_mem _ hx)]
    rfl
theorem deep_all {n : Nat} : ∀ ds : List PyData, (∀ d ∈ ds, PyData.depth d ≤ n) → PyData.depthAll ds ≤ n
  | [], _ => by simp [PyData.depthAll]
  | d :: ds, h => by
    have h1 := h d (List.mem_cons_self ..)
    have h2 := deep_all ds fun x hx => h x (List.mem_cons_of_mem _ hx)
    rw [PyData.depthAll]
    omega
theorem shaped_tup {ds : List PyData} {n : Nat} (h : ∀ d ∈ ds, PyData.canLay0 d = true ∧ PyData.depth d ≤ n) (hn : n ≤ 60) : SeqAt.shaped (.tuple ds) = true := by
  show (PyData.canLay0 _ && decide (PyData.depth _ ≤ 64)) = true
  have h1 := lay_all ds fun d hd => (h d hd).1
  have h2 := deep_all (n := n) ds fun d hd => (h d hd).2
  rw [Bool.and_eq_true, decide_eq_true_eq]
  exact ⟨by rw [PyData.canLay0]; exact h1, by rw [PyData.depth]; omega⟩
theorem shaped_lst {ds : List PyData} {n : Nat} (h : ∀ d ∈ ds, PyData.canLay0 d = true ∧ PyData.depth d ≤ n) (hn : n ≤ 60) : SeqAt.shaped (.list ds) = true := by
  show (PyData.canLay0 _ && decide (PyData.depth _ ≤ 64)) = true
  have h1 := lay_all ds fun d hd => (h d hd).1
  have h2 := deep_all (n := n) ds fun d hd => (h d hd).2
  rw [Bool.and_eq_true, decide_eq_true_eq]
  exact ⟨by rw [PyData.canLay0]; exact h1, by rw [PyData.depth]; omega⟩
theorem lay_tx {s : List Nat} (h : ∀ c ∈ s, c < 1114112) : PyData.canLay0 (.str (SX.S s)) = true ∧ PyData.depth (.str (SX.S s)) ≤ 0 := by
  have hs : PyData.strOk (SX.S s) = true := by
    unfold PyData.strOk
    show s.toArray.all _ = true
    simpa using h
  exact ⟨by simp [PyData.canLay0, hs], by simp [PyData.depth]⟩
theorem lay_pd {r : Nat × Nat} (h : r.2 < 1114112) : PyData.canLay0 (pd r) = true ∧ PyData.depth (pd r) ≤ 1 := by
  have hs := (lay_tx (s := [r.2]) fun c hc => by rw [List.mem_singleton.mp hc]; exact h).1
  rw [PyData.canLay0] at hs
  constructor
  · simp [pd, PyData.canLay0, PyData.canLayAll0, hs]
  · simp [pd, PyData.depth, PyData.depthAll]
theorem Alf.uni {al : List Nat} (A : Alf al) {c : Nat} (h : c ∈ al) : c < 1114112 := by
  have := A.let' c h
  omega
/-- two tuples of the same rows -/
theorem rv_neRows {p q : Addr} {xs ys : List V} {rs : Rw} {al : List Nat} (A : Alf al) (hr : ∀ r ∈ rs, r.2 ∈ al) (h1 : H p = some (.tup xs)) (h2 : RowsAt H xs rs) (h3 : H q = some (.tup ys)) (h4 : RowsAt H ys rs) : RV (rNeD K) (.ref p) (.ref q) H (.bl false) :=
  rv_neSame (d := .tuple (rs.map pd)) (shaped_tup (n := 1) (fun d hd => by
    obtain ⟨r, hr', rfl⟩ := List.mem_map.mp hd
    exact lay_pd (A.uni (hr r hr'))) (by decide)) (fun H1 e => .tup (st_of (e _ _ h1)) (dp_rows _ _ (h2.mono e))) fun H1 e => .tup (st_of (e _ _ h3)) (dp_rows _ _ (h4.mono e))
/-- two tuples of the same texts -/
theorem rv_neTxs {p q : Addr} {ss : List (List Nat)} {al : List Nat} (A : Alf al) (hr : ∀ s ∈ ss, ∀ c ∈ s, c ∈ al) (h1 : H p = some (.tup (ss.map tx))) (h2 : H q = some (.tup (ss.map tx))) : RV (rNeD K) (.ref p) (.ref q) H (.bl false) :=
  rv_neSame (d := .tuple (ss.map fun s => PyData.str (SX.S s))) (shaped_tup (n := 0) (fun d hd => by
    obtain ⟨s, hs, rfl⟩ := List.mem_map.mp hd
    exact lay_tx fun c hc => A.uni (hr s hs c hc)) (by decide)) (fun H1 e => .tup (st_of (e _ _ h1)) (dp_txs _)) fun H1 e => .tup (st_of (e _ _ h2)) (dp_txs _)
/-- two lists of the same ints -/
theorem rv_eqInts {p q : Addr} {ns : List Int} (h1 : SqL K H p (ns.map V.int)) (h2 : SqL K H q (ns.map V.int)) : RV (rEqD K) (.ref p) (.ref q) H (.bl true) :=
  rv_eqSame (d := .list (ns.map PyData.int)) (shaped_list_of_ints ns) (fun H1 e => .lst (ex_l e h1) (dp_ints ns)) fun H1 e => .lst (ex_l e h2) (dp_ints ns)
end
end Ver
namespace Ver
open PySem PySem.Spec PyProof.Rows L2 Evl
/-! ### repr of three texts and a number -/
def pd4 (a b c : List Nat) (n : Int) : PyData := .list [.str (SX.S a), .str (SX.S b), .str (SX.S c), .int n]
theorem short_tx {s : List Nat} (h : ∀ c ∈ s, c < 1114112) : PyData.leavesShort 60 (.str (SX.S s)) = true := by
  show (SX.S s).cps.toList.all (fun c => decide (c < 16 ^ 8)) = true
  rw [List.all_eq_true]
  intro c hc
  have hc' : c ∈ s := by simpa [SX.S] using hc
  have := h c hc'
  exact decide_eq_true (by omega)
theorem repr4_ok {K : PySem.W.Frag} {H : Hp} {p : Addr} {a b c : List Nat} {n : Int} {Q : VK} (hs : SqL K H p [tx a, tx b, tx c, .int n]) (ha : ∀ x ∈ a, x < 1114112) (hb : ∀ x ∈ b, x < 1114112) (hc : ∀ x ∈ c, x < 1114112) (la : a.length ≤ 1000) (lb : b.length ≤ 1000) (lc : c.length ≤ 1000) (hn : n.natAbs < 10 ^ 50) (q : Q (.str (pd4 a b c n).shown) H) : rReprD K [.ref p] H Q := by
  have h1 : n.natAbs.log2 < 1920 := log_small hn
  have h2 : (PyData.shown (.int n)).length ≤ 60 := by
    have e := int_text_length_le10 (k := 50) (by decide) hn
    show (Str.ofString (toString n)).length ≤ 60
    rw [PySem.ofString_length]
    omega
  have h3 : (if n == 0 then 0 else n.natAbs.log2 + 1) ≤ 168 := by
    split
    · omega
    · rename_i c
      have hz : n.natAbs ≠ 0 := fun z => c (by rw [Int.natAbs_eq_zero.mp z]; rfl)
      have : n.natAbs.log2 < 167 := (Nat.log2_lt hz).mpr (Nat.lt_trans hn (by decide +kernel))
      omega
  refine ⟨p, pd4 a b c n, rfl, .lst hs (.cons (.str _) (.cons (.str _) (.cons (.str _) (.cons (.int _) .nil)))), ?_, ?_, ?_, ?_, q⟩
  · simp [pd4, PyData.showable, PyData.showableAll, h1]
  · simp [pd4, PyData.hasDict, PyData.hasDictAll]
  · simp [pd4, PyData.depth, PyData.depthAll]
  · have h := PyData.shown_le 60 (by decide) (pd4 a b c n) (by
      show (PyData.leavesShort 60 _ && (PyData.leavesShort 60 _ && (PyData.leavesShort 60 _ && (PyData.leavesShort 60 _ && true)))) = true
      rw [short_tx ha, short_tx hb, short_tx hc]
      show (true && (true && (true && (decide ((PyData.shown (.int n)).length ≤ 60) && true)))) = true
      rw [decide_eq_true h2]
      rfl)
    have hw : (pd4 a b c n).weight ≤ 10000 := by
      have sa : (SX.S a).cps.size = a.length := by simp [SX.S]
      have sb : (SX.S b).cps.size = b.length := by simp [SX.S]
      have sc : (SX.S c).cps.size = c.length := by simp [SX.S]
      simp only [pd4, PyData.weight, PyData.weightAll, Str.length, sa, sb, sc]
      omega
    have h5 : (60 + 2) * (pd4 a b c n).weight ≤ 62 * 10000 := Nat.mul_le_mul_left _ hw
    refine Nat.le_trans h (Nat.le_trans ?_ (show 11000000 ≤ sizeLine by decide))
    omega
theorem ev_repr4G {K : PySem.W.Frag} {σ : L2.St} {H : Hp} {tl : TE} {a b c : List Nat} {n : Int} (h : EvL tl σ H [tx a, tx b, tx c, .int n]) (ha : ∀ x ∈ a, x < 1114112) (hb : ∀ x ∈ b, x < 1114112) (hc : ∀ x ∈ c, x < 1114112) (la : a.length ≤ 1000) (lb : b.length ≤ 1000) (lc : c.length ≤ 1000) (hn : n.natAbs < 10 ^ 50) : Ev (tCB (rReprD K) (tCons tl tNil)) σ H (.str (pd4 a b c n).shown) := fun H1 e Q q =>
  h H1 e _ fun p H2 _ e2 g2 => repr4_ok (sq_of g2) ha hb hc la lb lc hn (q H2 e2)
theorem ev_repr4 {K : PySem.W.Frag} {σ : L2.St} {H : Hp} {t1 t2 t3 t4 : TE} {a b c : List Nat} {n : Int} (h1 : Ev t1 σ H (tx a)) (h2 : Ev t2 σ H (tx b)) (h3 : Ev t3 σ H (tx c)) (h4 : Ev t4 σ H (.int n)) (ha : ∀ x ∈ a, x < 1114112) (hb : ∀ x ∈ b, x < 1114112) (hc : ∀ x ∈ c, x < 1114112) (la : a.length ≤ 1000) (lb : b.length ≤ 1000) (lc : c.length ≤ 1000) (hn : n.natAbs < 10 ^ 50) :
    Ev (tCB (rReprD K) (tCons (tLst (tCons t1 (tCons t2 (tCons t3 (tCons t4 tNil))))) tNil)) σ H (.str (pd4 a b c n).shown) := by
  exact ev_repr4G (el_lst (ea_cons h1 (ea_cons h2 (ea_cons h3 (ea_cons h4 ea_nil)))) (by show 4 ≤ 100000; decide)) ha hb hc la lb lc hn
end Ver
namespace Ver
open PySem PySem.Spec PyProof.Rows L2 Evl
theorem cutV_to {xs : List V} (n : Nat) : cutV xs none (some (n : Int)) = xs.take n := by
  unfold cutV
  rw [HT.sIx_none, HT.sIx_nat]
  simp only [Nat.sub_zero, List.drop_zero]
  by_cases h : n ≤ xs.length
  · rw [Nat.min_eq_left h]
  · rw [Nat.min_eq_right (by omega), List.take_length, List.take_of_length_le (by omega)]
theorem el_to {K : PySem.W.Frag} {σ : L2.St} {H : Hp} {te : TE} {a : Addr} {r : List Int} {n : Nat} {i : Int} (hi : i = (n : Int)) (h : Ev te σ H (.ref a)) (hR : SqL K H a (r.map V.int)) : EvL (tSl (rSlL K) te tNoPart (tPart (tC (.int i)))) σ H ((r.take n).map V.int) := by
  have g := el_sl (K := K) (te := te) (σ := σ) (H := H) (tl := tNoPart) (th := tPart (tC (.int i))) (lo := none) (hi := some i) h eo_none (eo_some ev_c) hR
  subst hi
  rw [cutV_to, ← List.map_take] at g
  exact g
def Z9 : List Int := [61, 60, 6, 120, 5, 36, 301, 8, 20001]
theorem z9_ok : ∀ i, i < 9 → 0 < at0 Z9 i ∧ at0 Z9 i < 18446744073709551616 := by decide +kernel
theorem onl_form {al a b h v : List Nat} (he : ∀ i, ex a b i = ex h v i) (oh : Onl al h) (ov : Onl al v) (hv : 0 < v.length) : Onl al a ∧ Onl al b := by
  refine ⟨fun c hc => ?_, fun c hc => ?_⟩
  · obtain ⟨i, hi, rfl⟩ := List.mem_iff_getElem.mp hc
    have e : a[i] = ex h v i := by
      rw [← he, ex_head hi, List.getD_eq_getElem?_getD, List.getElem?_eq_getElem hi]
      rfl
    rw [e]
    exact onl_ex oh ov hv i
  · obtain ⟨i, hi, rfl⟩ := List.mem_iff_getElem.mp hc
    have e : b[i] = ex h v (a.length + i) := by
      rw [← he, ex_add, Nat.mod_eq_of_lt hi, List.getD_eq_getElem?_getD, List.getElem?_eq_getElem hi]
      rfl
    rw [e]
    exact onl_ex oh ov hv _
theorem rnd_forms {C : Addr} {H : Hp} {p : Addr} {e : Nat → Nat} {N : Nat} {al : List Nat} (hR : RndAt C H p e N) (hL : RndAl C H p al) : ∃ a b, a.length + b.length = N ∧ 0 < b.length ∧ (∀ i, ex a b i = e i) ∧ RndI C H p al a b := by
  obtain ⟨dx, al1, a, b, ip, hl, hb, he, _, _⟩ := hR.ex
  exact ⟨a, b, hl, hb, he, rnd_exact hR hL hb hl he⟩
section
variable {σ : L2.St} {H : Hp} {t1 t2 t3 tl : TE} {ta : TA} {sp : Sp} {E E' : XK} {x1 x2 y z : V} {xs dvs : List V} {Q : VK} {K : PySem.W.Frag} {C : Addr}
theorem run_cEL2 (h1 : Ev t1 σ H x1) (hl : EvL tl σ H xs) (k : ∀ p H1, Ex H H1 → H1 p = some (.lst xs) → sp ([x1, .ref p] ++ dvs) H1 Q E) : tCall sp dvs E (tCons t1 (tCons tl tNil)) σ H Q :=
  h1 H (Ex.refl H) _ fun H1 e1 => hl H1 e1 _ fun p H2 _ e2 g2 => k p H2 (e1.trans e2) g2
theorem run_wid {al : List Nat} {n : Int} (hA : Alf al) (h : EvA ta σ H [tx al, .int n]) (k : ∀ wv H1, Ex H H1 → (wv = .non ∨ ∃ wl, wv = tx wl ∧ Alf wl ∧ wl ≠ al ∧ ∀ c ∈ al, c ∈ wl) → Q wv H1) : tCall spWid [] E ta σ H Q := h H (Ex.refl H) _ fun H1 e1 =>
  ⟨al, n, rfl, hA, fun _ H2 e2 => k _ H2 (e1.trans e2) (.inl rfl), fun wl hW ne sub H2 e2 => k _ H2 (e1.trans e2) (.inr ⟨wl, rfl, hW, ne, sub⟩)⟩
/-- has_form, its third argument the law's own form -/
theorem et_hfForm {p : Addr} {al h v : List Nat} {N : Nat} (hp : Ev t1 σ H (.ref p)) (ha : Ev t2 σ H (tx al)) (hv : EvA ta σ H [tx h, tx v]) (hR : RndAt C H p (ex h v) N) (hL : RndAl C H p al) (l1 : 1 ≤ v.length) (lv : v.length ≤ 60) (lh : h.length ≤ 60) :
    EvT (tB (tCall (spHf K C) [] E (tCons t1 (tCons t2 (tCons (tCall spForm [] E' ta) tNil))))) σ H true := et_B fun H1 e1 Q q => hp H1 e1 _ fun H2 e2 => ha H2 (e1.trans e2) _ fun H3 e3 => hv H3 ((e1.trans e2).trans e3) _ fun H4 e4 =>
  ⟨h, v, rfl, l1, lv, lh, fun a b vty _ same bp b60 al2 mp H5 hmp e5 g5 => by
    have e15 := (((e1.trans e2).trans e3).trans e4).trans e5
    have n1 := hR.vty.one vty
    exact ⟨p, mp, al, a, b, rfl, (rnd_exact hR hL bp n1.symm same).mono e15, sq_of g5, by omega, by omega, fun H6 e6 => q H6 ((((e2.trans e3).trans e4).trans e5).trans e6)⟩⟩
theorem ev_toldE {a b : Bool} (h1 : Ev t1 σ H (.bl a)) (h2 : Ev t2 σ H (.bl b)) (e : a = b) : EvT (tNot (tB (tCall spTold [] E (tCons t1 (tCons t2 tNil))))) σ H false := et_is (et_not (a := true) (et_B (ev_is (ev_call (ea_cons h1 (ea_cons h2 ea_nil)) sv_told) (by rw [decide_eq_true e])))) rfl
theorem rv_notN {x : V} : RV (fun x y H Q => y = .non ∧ Q (.bl (!decide (x = .non))) H) x .non H (.bl (!decide (x = .non))) := fun H1 _ Q q => ⟨rfl, q H1 (Ex.refl H1)⟩
end
/-! ### calls by name -/
theorem kb_m1 {K : PySem.W.Frag} {x q : Str} {st : Stmt} {a b : Str} {f : Addr} {fd : FuncData} (F : Fun K x q st f fd) (h : ∀ (kV doc pm : Value) (an : Option Addr) (cdv ct u v : Value), bindArgs (PySem.W.fnOf x q (defArgs st) (defBody st) (defScope st) .none kV doc pm an cdv ct) ⟨[u], [(b, v)]⟩ = pure [(a, u), (b, v)]) : KBn K fd [a, b] 1 [b] (fun us ws => us ++ ws) (fun vs zs => vs ++ zs) := by
  obtain ⟨oc, od, kV, doc, pm, an, cdv, ct, osl, rfl, lk, hcd⟩ := F.ex
  refine ⟨fun s us ws X l1 l2 => ?_, fun r1 r2 => r1.append r2⟩
  match us, ws, l1, l2 with
  | [u], [v], _, _ => exact .of_eq (h kV doc pm an cdv ct u v)
theorem kb_i3 {K : PySem.W.Frag} {x q : Str} {st : Stmt} {a b c d : Str} {f : Addr} {fd : FuncData} (F : Fun K x q st f fd) (h : ∀ (kV doc pm : Value) (an : Option Addr) (cdv ct u v y z : Value), bindArgs (PySem.W.fnOf x q (defArgs st) (defBody st) (defScope st) .none kV doc pm an cdv ct) ⟨[u], [(d, v), (c, y), (b, z)]⟩ = pure [(a, u), (b, z), (c, y), (d, v)]) : KBn K fd [a, b, c, d] 1 [d, c, b] (fun us ws => us ++ ws.reverse) (fun vs zs => vs ++ zs.reverse) := by
  obtain ⟨oc, od, kV, doc, pm, an, cdv, ct, osl, rfl, lk, hcd⟩ := F.ex
  refine ⟨fun s us ws X l1 l2 => ?_, fun r1 r2 => r1.append (vals_rev r2)⟩
  match us, ws, l1, l2 with
  | [u], [v, y, z], _, _ => exact .of_eq (h kV doc pm an cdv ct u v y z)
section
variable {P : Program} {w : World} {K : PySem.W.Frag} {mg : Str → Option Value} {base : Heap} {C_Round : Addr}
def HasMK (P : Program) (w : World) (K : PySem.W.Frag) (mg : Str → Option Value) (base : Heap) (C : Addr) (m b : Str) (k : Nat) (sp : Sp) : Prop :=
  ∃ f fd, FnOk P w K mg base CX0 k f fd ["self", b] sp ∧ L2.Binds K fd ["self", b] [] ∧ Meth K C m f ∧ KBn K fd ["self", b] 1 [b] (fun us ws => us ++ ws) (fun vs zs => vs ++ zs)
def HasIK (P : Program) (w : World) (K : PySem.W.Frag) (mg : Str → Option Value) (base : Heap) (C : Addr) (k : Nat) (sp : Sp) : Prop :=
  ∃ f fd, FnOk P w K mg base CX0 k f fd ["self", "alphabet", "head", "ring"] sp ∧ L2.Binds K fd ["self", "alphabet", "head", "ring"] [] ∧ Mk K C f ∧ KBn K fd ["self", "alphabet", "head", "ring"] 1 ["ring", "head", "alphabet"] (fun us ws => us ++ ws.reverse) (fun vs zs => vs ++ zs.reverse)
theorem has_begK (F : AtM K C_Round "beginning" "Round.beginning" s_Round_beginning) (T : Top K mg C_Round) : HasMK P w K mg base C_Round "beginning" "length" 1 (spBeg C_Round) := by
  obtain ⟨f, fd, F, M⟩ := F.ex
  exact ⟨f, fd, beg_ok F T, F.binds fun _ _ _ _ _ _ us hl => match us, hl with | [_, _], _ => rfl, M, kb_m1 F fun _ _ _ _ _ _ _ _ => rfl⟩
theorem has_letK (F : AtM K C_Round "letter_of" "Round.letter_of" s_Round_letter_of) (T : Top K mg C_Round) : HasMK P w K mg base C_Round "letter_of" "index" 1 (spLet C_Round) := by
  obtain ⟨f, fd, F, M⟩ := F.ex
  exact ⟨f, fd, let_ok F T, F.binds fun _ _ _ _ _ _ us hl => match us, hl with | [_, _], _ => rfl, M, kb_m1 F fun _ _ _ _ _ _ _ _ => rfl⟩
theorem has_rndK (F : AtI K C_Round "Round.__init__" s_Round___init__) (T : Top K mg C_Round) (h1 : Has P w K mg base "check_alphabet" s_check_alphabet ["alphabet"] 2 spCkAl) (h2 : Has P w K mg base "check_text" s_check_text ["alphabet", "text"] 1 spCkTx)
    (h3 : Has P w K mg base "turned_letters" s_turned_letters ["head", "ring"] 1 spTur) : HasIK P w K mg base C_Round 3 (spRnd C_Round) := by
  obtain ⟨f, fd, F, M⟩ := F.ex
  exact ⟨f, fd, rnd_ok F T h1 h2 h3, F.binds fun _ _ _ _ _ _ us hl => match us, hl with | [_, _, _, _], _ => rfl, M, kb_i3 F fun _ _ _ _ _ _ _ _ _ _ => rfl⟩
theorem run_rndK {σ : L2.St} {H : Hp} {tk : TA} {E : XK} {C : Addr} {al h v : List Nat} {Q : VK} (hA : Alf al) (oh : Onl al h) (ov : Onl al v) (l1 : 1 ≤ v.length) (lv : v.length ≤ 1000) (lh : h.length ≤ 1000) (hp : EvA tk σ H [tx v, tx h, tx al])
    (k : ∀ p N H2, H p = none → Ex H H2 → N ≤ h.length + v.length → RndAt C H2 p (ex h v) N → RndAl C H2 p al → Q (.ref p) H2) : tMakeK C 0 3 (spRnd C) (fun vs zs => vs ++ zs.reverse) E tNil tk σ H Q := hp H (Ex.refl H) _ fun H1 e1 => ⟨rfl, rfl, fun x dx hx hdx ne =>
  ⟨al, h, v, x, dx, H1, rfl, (Ex.new hdx).trans (Ex.new (by rw [upd_ne ne.symm]; exact hx)), hx, upd_same, hA, oh, ov, by omega, by omega, by omega, fun H2 N e2 hN hR hL => ⟨rfl, k x N H2 (fresh_back e1 hx) (e1.trans e2) hN hR hL⟩⟩⟩
end
end Ver
namespace Ver
open PySem PySem.Spec PyProof.Rows L2 Evl
section
variable {P : Program} {w : World} {K : PySem.W.Frag} {mg : Str → Option Value} {base : Heap} {C_PressError : Addr} {C_BadAlphabet : Addr} {C_BadLetter : Addr} {C_BadRow : Addr} {C_BadTail : Addr} {C_BadRank : Addr} {C_NotBits : Addr} {C_BadIndex : Addr} {C_BadStanding : Addr} {C_BadRule : Addr} {C_AlphabetsDiffer : Addr} {C_DoesNotComeBack : Addr} {C_TooLarge : Addr} {C_NotWritten : Addr} {C_NoSuchText : Addr} {C_BadName : Addr} {C_NameTaken : Addr} {C_NoName : Addr} {C_EmptyRing : Addr} {C_NotInLot : Addr} {C_BadBuild : Addr} {C_BadGrowth : Addr} {C_EmptyText : Addr} {C_NothingToUndo : Addr} {C_NothingToRedo : Addr}
abbrev fs_BadAlphabet : List V → List (Str × V) := fun us => [("alphabet", us.getD 0 .non)]
abbrev Er_BadAlphabet (P : Program) (w : World) (K : PySem.W.Frag) (mg : Str → Option Value) (base : Heap) (C : Addr) : Prop := ErrC P w K mg base "BadAlphabet" C 1 ["self", "alphabet"] fs_BadAlphabet
theorem he_BadAlphabet {fI : Addr} {fd : FuncData} (F : Fun K "__init__" "BadAlphabet.__init__" s_BadAlphabet___init__ fI fd) (o : OexC K C_BadAlphabet) (n0 : PySem.W.findIn K (.ref C_BadAlphabet) "alphabet" = some none) : FnOk P w K mg base CX0 1 fI fd ["self", "alphabet"] (spErr C_BadAlphabet 1 fs_BadAlphabet) := by
  refine F.ok S_BadAlphabet___init__ (fun vs H Q E h => ?_) (fun cdv A outer s H vs Q E hr h => ?_)
  · obtain ⟨a, us, rfl, hl, _⟩ := h
    show us.length + 1 = 2
    omega
  obtain ⟨a, us, rfl, hl, h1, h2⟩ := h
  match us, hl with
  | [u0], _ =>
  refine ⟨_, (pss_one
    (ps_ost (pv 0) (pv 1))), ?_⟩
  refine ⟨_, rfl, _, rfl, a, C_BadAlphabet, rfl, o, n0, .inl ⟨h1, fun dx hd ne => h2 dx _ hd ne upd_same (by rw [upd_ne ne]; exact upd_same) fun b b1 b2 => by rw [upd_ne b1, upd_ne b2]⟩⟩
abbrev fs_BadLetter : List V → List (Str × V) := fun us => [("index", us.getD 0 .non)]
abbrev Er_BadLetter (P : Program) (w : World) (K : PySem.W.Frag) (mg : Str → Option Value) (base : Heap) (C : Addr) : Prop := ErrC P w K mg base "BadLetter" C 1 ["self", "index"] fs_BadLetter
theorem he_BadLetter {fI : Addr} {fd : FuncData} (F : Fun K "__init__" "BadLetter.__init__" s_BadLetter___init__ fI fd) (o : OexC K C_BadLetter) (n0 : PySem.W.findIn K (.ref C_BadLetter) "index" = some none) : FnOk P w K mg base CX0 1 fI fd ["self", "index"] (spErr C_BadLetter 1 fs_BadLetter) := by
  refine F.ok S_BadLetter___init__ (fun vs H Q E h => ?_) (fun cdv A outer s H vs Q E hr h => ?_)
  · obtain ⟨a, us, rfl, hl, _⟩ := h
    show us.length + 1 = 2
    omega
  obtain ⟨a, us, rfl, hl, h1, h2⟩ := h
  match us, hl with
  | [u0], _ =>
  refine ⟨_, (pss_one
    (ps_ost (pv 0) (pv 1))), ?_⟩
  refine ⟨_, rfl, _, rfl, a, C_BadLetter, rfl, o, n0, .inl ⟨h1, fun dx hd ne => h2 dx _ hd ne upd_same (by rw [upd_ne ne]; exact upd_same) fun b b1 b2 => by rw [upd_ne b1, upd_ne b2]⟩⟩
end
end Ver
namespace Ver
open PySem PySem.Spec PyProof.Rows L2 Evl
theorem lets_let {c : Nat} (h : c ∈ lets) : (48 ≤ c ∧ c ≤ 57) ∨ (97 ≤ c ∧ c ≤ 122) := by
  have k : ∀ d ∈ lets, (48 ≤ d ∧ d ≤ 57) ∨ (97 ≤ d ∧ d ≤ 122) := by decide +kernel
  exact k c h
section
variable {P : Program} {w : World} {K : PySem.W.Frag} {mg : Str → Option Value} {base : Heap} {C_Round : Addr} {C_PressError : Addr} {C_BadAlphabet : Addr} {C_BadLetter : Addr} {C_BadRow : Addr} {C_BadTail : Addr} {C_BadRank : Addr} {C_NotBits : Addr} {C_BadIndex : Addr} {C_BadStanding : Addr} {C_BadRule : Addr} {C_AlphabetsDiffer : Addr} {C_DoesNotComeBack : Addr} {C_TooLarge : Addr} {C_NotWritten : Addr} {C_NoSuchText : Addr} {C_BadName : Addr} {C_NameTaken : Addr} {C_NoName : Addr} {C_EmptyRing : Addr} {C_NotInLot : Addr} {C_BadBuild : Addr} {C_BadGrowth : Addr} {C_EmptyText : Addr} {C_NothingToUndo : Addr} {C_NothingToRedo : Addr}
/-! ### what is no alphabet -/
def spIsAlB : Sp := fun vs H Q _ => ∃ al : List Nat, vs = [tx al] ∧ ¬ Alf al ∧ al.length ≤ 40000 ∧ RetV (.bl false) H Q
theorem has_isalB (F : At K mg "is_alphabet" s_is_alphabet) (T : Top K mg C_Round) : Has P w K mg base "is_alphabet" s_is_alphabet ["string"] 1 spIsAlB := by
  obtain ⟨f, fd, F, m⟩ := F.ex
  obtain ⟨tL, g_LETTERS⟩ := T.g_LETTERS
  obtain ⟨tM, g_MOST_LETTERS⟩ := T.g_MOST_LETTERS
  refine ⟨f, fd, F, F.ok S_is_alphabet (fun vs H Q E h => ?_) (fun cdv A outer s H vs Q E hr h => ?_), F.binds fun _ _ _ _ _ _ us hl => match us, hl with | [_], _ => rfl, m, F.kp⟩
  · obtain ⟨al, rfl, _⟩ := h
    rfl
  obtain ⟨al, rfl, hA, hz, q⟩ := h
  refine ⟨_, (pss_cons
    (ps_if (PW.pt (pw_or (pt_cmpR op_lt (pe_callB call_len_str rfl T.z_len PySem.boot_len (pa_cons (pv 0) pa_nil)) pe_int (nomark _)) (pw_or1 (pt_cmpR op_gt (pe_callB call_len_str rfl T.z_len PySem.boot_len (pa_cons (pv 0) pa_nil)) (pe_glob (v := .int 6) rfl g_MOST_LETTERS ⟨_, rfl⟩) (nomark _))))) (pss_one
    (ps_ret pe_bl)) pss_nil)
    (pss_cons
    (ps_if (pt_cmpR op_ne (pe_bm PySem.F.plainAttrs_str PySem.F.slot_str_strip PySem.F.type_str_strip mt_stripChars (pv 0) (pa_cons (pe_glob (v := .str (Str.ofString "0123456789abcdefghijklmnopqrstuvwxyz")) rfl g_LETTERS ⟨_, rfl⟩) pa_nil)) pe_str (nomark _)) (pss_one
    (ps_ret pe_bl)) pss_nil)
    (pss_one
    (ps_ret (pe_callB (cr_all rfl) rfl T.z_all (by decide +kernel) (pa_cons (pe_lc (own := [("one", 1), ("two", 2)]) (g := gTup K 2 (gCons (gName 1) (gCons (gName 2) gNil))) (tt := tYes) rfl S_is_alphabet.nd (pi_zipS rfl T.z_zip (pa_cons (pv 0) (pa_cons (pe_slice sl_str (pv 0) (po_some pe_int) po_none) pa_nil))) (blkOk_by (N := N_is_alphabet) (sc := defScope s_is_alphabet) (by decide +kernel)) (fun _ _ _ _ _ => pg_tup rfl (pgs_cons (pg_name (i := 1) S_is_alphabet.nd rfl (Or.inl rfl)) (pgs_cons (pg_name (i := 2) S_is_alphabet.nd rfl (Or.inl rfl)) pgs_nil))) (fun _ _ _ _ _ => pts_nil) (fun _ _ _ _ _ => (pe_cmpR op_lt_str (pv 1) (pv 2) (nomark _)))) pa_nil)))))), ?_⟩
  refine q_when (et_or (et_lt (ev_lenS (by omega) (ev_var rfl)) ev_c) (fun _ => et_gt (ev_lenS (by omega) (ev_var rfl)) ev_c)) (fun hb H1 e1 => ?_) (fun hb H1 e1 => ?_)
  · exact s_ret ev_c fun H2 e2 => q H2 (e1.trans e2)
  have hl : 1 ≤ al.length ∧ al.length ≤ 6 := by
    rw [Bool.or_eq_false_iff] at hb
    have h1 := of_decide_eq_false hb.1
    have h2 := of_decide_eq_false hb.2
    omega
  by_cases c : ∃ c ∈ al, c ∉ lets
  · have hst := strip_some c
    rw [← lets_is] at hst
    refine q_take (et_is (et_test (ev_op (ev_bm (z := .str (Txt.stripChars (SX.S al) (Str.ofString "0123456789abcdefghijklmnopqrstuvwxyz"))) (ev_var rfl) (fun _ _ => rfl) (ea_cons ev_c ea_nil) fun H2 _ Q' q' => ⟨SX.S al, _, rfl, rfl, by rw [SX.S_len]; exact sz_of (by omega), q' H2 (Ex.refl H2)⟩) ev_c (rv_ne rfl))) (by
      rw [nil_is, decide_eq_false fun z => hst (V.str.inj z)]
      rfl)) fun H2 e2 => s_ret ev_c fun H3 e3 => q H3 ((e1.trans e2).trans e3)
  · have hin : ∀ c ∈ al, c ∈ lets := fun x hx => Classical.byContradiction fun hn => c ⟨x, hx, hn⟩
    have hst : Txt.stripChars (SX.S al) (Str.ofString "0123456789abcdefghijklmnopqrstuvwxyz") = SX.S [] := by
      rw [lets_is]
      exact strip_chars hin
    refine q_skip (et_is (et_test (ev_op (ev_bm (z := tx []) (ev_var rfl) (fun _ _ => rfl) (ea_cons ev_c ea_nil) fun H2 _ Q' q' => ⟨SX.S al, _, rfl, rfl, by rw [SX.S_len]; exact sz_of (by omega), by rw [hst]; exact q' H2 (Ex.refl H2)⟩) ev_c (rv_ne rfl))) (by rw [nil_is]; simp)) fun H2 e2 => ?_
    refine s_ret (ev_is (ev_allN (bs := (List.range (min al.length (al.drop 1).length)).map fun i => decide (al.getD i 0 < (al.drop 1).getD i 0)) ?_) ?_) fun H3 e3 => q H3 ((e1.trans e2).trans e3)
    · have g := el_lcZ (K := K) (σ := [some (tx al), none, none]) (H := H2) (x := al) (y := al.drop 1) (tp := tCons (tVar 0) (tCons (tSl rSlS (tVar 0) (tPart (tC (.int 1))) tNoPart) tNil)) (j1 := 1) (j2 := 2) (vs := [1, 2]) (te := tOp (fun x y H Q => ∃ i j : Str, x = .str i ∧ y = .str j ∧ Q (.bl (decide (i.cps.toList < j.cps.toList))) H) (tVar 1) (tVar 2))
        (fun i => V.bl (decide (al.getD i 0 < (al.drop 1).getD i 0)))
        (ea_cons (ev_var rfl) (ea_cons (ev_is (ev_slS (by omega) (ev_var rfl) (eo_some (i := ((1 : Nat) : Int)) ev_c) eo_none) (by rw [cutL_from])) ea_nil)) (by omega) (fun a b => rfl) (fun i c d H3 e3 hc hd => ?_)
      · rw [List.map_map]
        exact g
      · have ec : al.getD i 0 = c := by
          rw [List.getD_eq_getElem?_getD, hc]
          rfl
        have ed : (al.drop 1).getD i 0 = d := by
          rw [List.getD_eq_getElem?_getD, hd]
          rfl
        rw [ec, ed]
        refine ev_is (ev_op (ev_var rfl) (ev_var rfl) rv_ltS) ?_
        congr 1
        refine decide_eq_decide.mpr ?_
        constructor
        · intro h
          cases h with
          | rel h => exact h
          | cons h => cases h
        · exact fun h => List.Lex.rel h
    · congr 1
      refine Bool.eq_false_iff.mpr fun hall => hA ⟨asc_of al fun i hi => ?_, hl.1, hl.2, fun c hc => lets_let (hin c hc)⟩
      rw [List.all_eq_true] at hall
      have hd : (al.drop 1).length = al.length - 1 := List.length_drop
      have := hall _ (List.mem_map.mpr ⟨i, List.mem_range.mpr (by omega), rfl⟩)
      have := of_decide_eq_true (show decide (al.getD i 0 < (al.drop 1).getD i 0) = true from this)
      rw [List.getD_eq_getElem?_getD (l := al.drop 1), List.getElem?_drop, Nat.add_comm 1 i, ← List.getD_eq_getElem?_getD] at this
      exact this
/-! ### check_alphabet, check_text that raise -/
def spCkAlB (C : Addr) : Sp := fun vs H Q E => ∃ al : List Nat, vs = [tx al] ∧ ¬ Alf al ∧ al.length ≤ 40000 ∧ RetE C [("alphabet", tx al)] H E
def HasX (P : Program) (w : World) (K : PySem.W.Frag) (mg : Str → Option Value) (base : Heap) (x : Str) (st : Stmt) (ps : List Str) (k : Nat) (sp : Sp) : Prop :=
  ∃ f fd, Fun K x x st f fd ∧ FnOk P w K mg base (L2.CX P w) k f fd ps sp ∧ L2.Binds K fd ps [] ∧ mg x = some (.ref f) ∧ PySem.W.keepIn K (.ref f) = true
/-- both at once -/
theorem has_both {x : Str} {st : Stmt} {ps : List Str} {k j : Nat} {sp sp' : Sp} (h1 : Has P w K mg base x st ps j sp) (h2 : HasX P w K mg base x st ps k sp') (hk : j ≤ k) : HasX P w K mg base x st ps k (fun vs H Q E => sp vs H Q E ∨ sp' vs H Q E) := by
  obtain ⟨f, fd, F, G, b, m, kp⟩ := h2
  obtain ⟨f1, fd1, F1, G1, b1, m1, k1⟩ := h1
  have ef : f1 = f := by
    have := m1.symm.trans m
    cases this
    rfl
  subst ef
  obtain ⟨oc, od, kV, doc, pm, an, cdv, ct, osl, rfl, lk, hcd⟩ := F.ex
  obtain ⟨oc', od', kV', doc', pm', an', cdv', ct', osl', rfl, lk', hcd'⟩ := F1.ex
  have := lk.symm.trans lk'
  cases this
  exact ⟨f1, _, F, FnOk.both (FnOk.up (G1.mono hk)) G, b, m, kp⟩
theorem has_ckalB (F : At K mg "check_alphabet" s_check_alphabet) (T : Top K mg C_Round) (GE_BadAlphabet : Er_BadAlphabet P w K mg base C_BadAlphabet) (h1 : Has P w K mg base "is_alphabet" s_is_alphabet ["string"] 1 spIsAlB) : HasX P w K mg base "check_alphabet" s_check_alphabet ["alphabet"] 3 (spCkAlB C_BadAlphabet) := by
  obtain ⟨f, fd, F, m⟩ := F.ex
  obtain ⟨f1, fd1, _, G_is_alphabet, b_is_alphabet, m_is_alphabet, k_is_alphabet⟩ := h1
  refine ⟨f, fd, F, F.okX S_check_alphabet (fun vs H Q E h => ?_) (fun cdv A outer s H vs Q E hr h => ?_), F.binds fun _ _ _ _ _ _ us hl => match us, hl with | [_], _ => rfl, m, F.kp⟩
  · obtain ⟨al, rfl, _⟩ := h
    rfl
  obtain ⟨al, rfl, hA, hz, q⟩ := h
  refine ⟨_, (pss_one
    (ps_if (pt_not (pt_val (pe_call G_is_alphabet (hr.mono (by decide)) rfl m_is_alphabet k_is_alphabet b_is_alphabet .nil pass0 (pa_cons (pv 0) pa_nil)))) (pss_one
    (ps_raiseE rfl GE_BadAlphabet (hr.mono (by decide)) (takes_of rfl rfl rfl rfl) (pa_cons (pv 0) pa_nil) rfl)) pss_nil)), ?_⟩
  refine s_when (et_not (et_B (ev_call (ea_cons (ev_var rfl) ea_nil) (z := .bl false) fun H2 e2 Q' q' E' => ⟨al, rfl, hA, hz, q'⟩))) (fun hb H1 e1 => ?_) (fun hb H1 e1 => nomatch hb)
  exact s_raiseR (vs := [tx al]) (ea_cons (ev_var rfl) ea_nil) rfl (by decide) e1 q
def spCkTxB (C : Addr) : Sp := fun vs H Q E => ∃ (al v : List Nat) (k : Nat), vs = [tx al, tx v] ∧ bad1 al v k ∧ v.length ≤ 100000 ∧ RetE C [("index", .int (k : Int))] H E
theorem has_cktxB (F : At K mg "check_text" s_check_text) (T : Top K mg C_Round) (GE_BadLetter : Er_BadLetter P w K mg base C_BadLetter) : HasX P w K mg base "check_text" s_check_text ["alphabet", "text"] 3 (spCkTxB C_BadLetter) := by
  obtain ⟨f, fd, F, m⟩ := F.ex
  refine ⟨f, fd, F, F.okX S_check_text (fun vs H Q E h => ?_) (fun cdv A outer s H vs Q E hr h => ?_), F.binds fun _ _ _ _ _ _ us hl => match us, hl with | [_, _], _ => rfl, m, F.kp⟩
  · obtain ⟨al, v, k, rfl, _⟩ := h
    rfl
  obtain ⟨al, v, k, rfl, hb, hz, q⟩ := h
  obtain ⟨r1, r2⟩ := bad1_rest hb
  have hk := hb.2
  refine ⟨_, (pss_cons
    (ps_set (i := 2) S_check_text.nd rfl (Or.inl rfl) (pe_bm PySem.F.plainAttrs_str PySem.F.slot_str_lstrip PySem.F.type_str_lstrip mt_lstripChars (pv 1) (pa_cons (pv 0) pa_nil)))
    (pss_one
    (ps_if (pt_cmpR op_ne (pv 2) pe_str (nomark _)) (pss_one
    (ps_raiseE rfl GE_BadLetter (hr.mono (by decide)) (takes_of rfl rfl rfl rfl) (pa_cons (pe_op op_sub (pe_callB call_len_str rfl T.z_len PySem.boot_len (pa_cons (pv 1) pa_nil)) (pe_callB call_len_str rfl T.z_len PySem.boot_len (pa_cons (pv 2) pa_nil))) pa_nil) rfl)) pss_nil))), ?_⟩
  refine q_asg (v := tx (v.dropWhile (inL al))) (ev_bm (ev_var rfl) (fun _ _ => rfl) (ea_cons (ev_var rfl) ea_nil) fun H2 _ Q' q' => ⟨SX.S v, SX.S al, rfl, rfl, by rw [SX.S_len]; exact sz_of hz, by rw [lstrip_is]; exact q' H2 (Ex.refl H2)⟩) fun H1 e1 => ?_
  refine s_when (et_is (et_test (ev_op (ev_var rfl) ev_c (rv_ne rfl))) (b := true) (by rw [nil_is, tx_dec, decide_eq_false r2]; rfl)) (fun hb H2 e2 => ?_) (fun hb H2 e2 => nomatch hb)
  exact s_raiseR (vs := [.int (k : Int)]) (ea_cons (ev_is (ev_sub (ev_lenS (by omega) (ev_var rfl)) (ev_lenS (by omega) (ev_var rfl))) (by rw [r1]; congr 1; omega)) ea_nil) rfl (by decide) (e1.trans e2) q
end
end Ver
namespace Ver
open PySem PySem.Spec PyProof.Rows L2 Evl
theorem RetE.mono {C : Addr} {fs : List (Str × V)} {H H' : Hp} {E : XK} (h : RetE C fs H E) (e : Ex H H') : RetE C fs H' E := fun d H2 e2 hd h2 => h d H2 (e.trans e2) (fresh_back e hd) h2
section
variable {P : Program} {w : World} {K : PySem.W.Frag} {mg : Str → Option Value} {base : Heap} {C_Round : Addr} {C_PressError : Addr} {C_BadAlphabet : Addr} {C_BadLetter : Addr} {C_BadRow : Addr} {C_BadTail : Addr} {C_BadRank : Addr} {C_NotBits : Addr} {C_BadIndex : Addr} {C_BadStanding : Addr} {C_BadRule : Addr} {C_AlphabetsDiffer : Addr} {C_DoesNotComeBack : Addr} {C_TooLarge : Addr} {C_NotWritten : Addr} {C_NoSuchText : Addr} {C_BadName : Addr} {C_NameTaken : Addr} {C_NoName : Addr} {C_EmptyRing : Addr} {C_NotInLot : Addr} {C_BadBuild : Addr} {C_BadGrowth : Addr} {C_EmptyText : Addr} {C_NothingToUndo : Addr} {C_NothingToRedo : Addr}
def HasIX (P : Program) (w : World) (K : PySem.W.Frag) (mg : Str → Option Value) (base : Heap) (C : Addr) (ps : List Str) (k : Nat) (sp : Sp) : Prop :=
  ∃ f fd, FnOk P w K mg base (L2.CX P w) k f fd ps sp ∧ L2.Binds K fd ps [] ∧ Mk K C f
theorem q_dropS {σ : L2.St} {H : Hp} {D : Ends} {tz : TS} {sp : Sp} {E : L2.St → XK} {ta : TA} {vs : List V} (h : EvA ta σ H vs) (k : ∀ H1, Ex H H1 → sp vs H1 (fun _ H2 => tz D σ H2) (E σ)) : tSeq (tDrop (tCallS sp E ta)) tz D σ H := h H (Ex.refl H) _ k
/-! ### Round(..) that raises -/
def spRndB (CA CL CR : Addr) : Sp := fun vs H Q E => ∃ (al h r : List Nat) (p : Addr) (H0 : Hp), vs = [.ref p, tx al, tx h, tx r] ∧ Ex H0 H ∧ al.length ≤ 40000 ∧ h.length ≤ 40000 ∧ r.length ≤ 40000 ∧
  ((¬ Alf al ∧ RetE CA [("alphabet", tx al)] H0 E) ∨ (Alf al ∧ ∃ k, bad1 al h k ∧ RetE CL [("index", .int (k : Int))] H0 E) ∨ (Alf al ∧ (∀ c ∈ h, c ∈ al) ∧ ∃ k, bad1 al r k ∧ RetE CL [("index", .int (k : Int))] H0 E) ∨
    (Alf al ∧ (∀ c ∈ h, c ∈ al) ∧ r = [] ∧ RetE0 CR H0 E))
theorem rndB_ok {f : Addr} {fd : FuncData} (F : Fun K "__init__" "Round.__init__" s_Round___init__ f fd) (T : Top K mg C_Round) (GO_EmptyRing : ErrO K mg "EmptyRing" C_EmptyRing)
    (h1 : HasX P w K mg base "check_alphabet" s_check_alphabet ["alphabet"] 3 (fun vs H Q E => spCkAl vs H Q E ∨ spCkAlB C_BadAlphabet vs H Q E)) (h2 : HasX P w K mg base "check_text" s_check_text ["alphabet", "text"] 3 (fun vs H Q E => spCkTx vs H Q E ∨ spCkTxB C_BadLetter vs H Q E))
    (h3 : Has P w K mg base "turned_letters" s_turned_letters ["head", "ring"] 1 spTur) : FnOk P w K mg base (L2.CX P w) 4 f fd ["self", "alphabet", "head", "ring"] (spRndB C_BadAlphabet C_BadLetter C_EmptyRing) := by
  obtain ⟨f1, fd1, _, GX_check_alphabet, b_check_alphabet, m_check_alphabet, k_check_alphabet⟩ := h1
  obtain ⟨f2, fd2, _, GX_check_text, b_check_text, m_check_text, k_check_text⟩ := h2
  obtain ⟨f3, fd3, _, G_turned_letters, b_turned_letters, m_turned_letters, k_turned_letters⟩ := h3
  refine F.okX S_Round___init__ (fun vs H Q E h => ?_) (fun cdv A outer s H vs Q E hr h => ?_)
  · obtain ⟨al, h, r, p, H0, rfl, _⟩ := h
    rfl
  obtain ⟨al, h, r, p, H0, rfl, e0, z1, z2, z3, q⟩ := h
  refine ⟨_, (pss_cons
    (ps_expr (pe_callS GX_check_alphabet (hr.mono (by decide)) rfl m_check_alphabet k_check_alphabet b_check_alphabet (fun σ => passAt (takes_of rfl rfl rfl rfl) σ) (pa_cons (pv 1) pa_nil)))
    (pss_cons
    (ps_expr (pe_callS GX_check_text (hr.mono (by decide)) rfl m_check_text k_check_text b_check_text (fun σ => passAt (takes_of rfl rfl rfl rfl) σ) (pa_cons (pv 1) (pa_cons (pv 2) pa_nil))))
    (pss_cons
    (ps_expr (pe_callS GX_check_text (hr.mono (by decide)) rfl m_check_text k_check_text b_check_text (fun σ => passAt (takes_of rfl rfl rfl rfl) σ) (pa_cons (pv 1) (pa_cons (pv 3) pa_nil))))
    (pss_cons
    (ps_if (pt_cmpR op_eq (pv 3) pe_str (nomark _)) (pss_one
    (ps_raise0 rfl GO_EmptyRing (takes_of rfl rfl rfl rfl) rfl)) pss_nil)
    (pss_cons
    (ps_set (i := 4) S_Round___init__.nd rfl (Or.inl rfl) (pe_slice sl_str (pv 3) po_none (po_some (pe_bm PySem.F.plainAttrs_str PySem.F.slot_str_find PySem.F.type_str_find mt_find3 (pe_op op_add_str (pv 3) (pv 3)) (pa_cons (pv 3) (pa_cons pe_int pa_nil))))))
    (pss_cons
    (ps_set (i := 5) S_Round___init__.nd rfl (Or.inl rfl) (pe_call G_turned_letters (hr.mono (by decide)) rfl m_turned_letters k_turned_letters b_turned_letters .nil pass0 (pa_cons (pv 2) (pa_cons (pv 4) pa_nil))))
    (pss_cons
    (ps_set (i := 6) S_Round___init__.nd rfl (Or.inl rfl) (pe_op op_sub (pe_callB call_len_str rfl T.z_len PySem.boot_len (pa_cons (pv 4) pa_nil)) (pe_op op_mod (pv 5) (pe_callB call_len_str rfl T.z_len PySem.boot_len (pa_cons (pv 4) pa_nil)))))
    (pss_cons
    (ps_fld (pv 0) (pv 1) rfl)
    (pss_cons
    (ps_fld (pv 0) (pe_slice sl_str (pv 2) po_none (po_some (pe_op op_sub (pe_callB call_len_str rfl T.z_len PySem.boot_len (pa_cons (pv 2) pa_nil)) (pv 5)))) rfl)
    (pss_cons
    (ps_fld (pv 0) (pe_op op_add_str (pe_slice sl_str (pv 4) (po_some (pv 6)) po_none) (pe_slice sl_str (pv 4) po_none (po_some (pv 6)))) rfl)
    (pss_one
    (ps_fld (pv 0) (pe_op op_add (pe_callB call_len_str rfl T.z_len PySem.boot_len (pa_cons (pe_fld (pv 0) rfl) pa_nil)) (pe_callB call_len_str rfl T.z_len PySem.boot_len (pa_cons (pe_fld (pv 0) rfl) pa_nil))) rfl)))))))))))), ?_⟩
  refine q_dropS (ea_cons (ev_var rfl) ea_nil) fun H1 e1 => ?_
  rcases q with ⟨hA, q⟩ | q
  · exact .inr ⟨al, rfl, hA, z1, q.mono (e0.trans e1)⟩
  have hA : Alf al := q.elim (fun h => h.1) fun q => q.elim (fun h => h.1) fun h => h.1
  refine .inl ⟨al, rfl, hA, fun H2 e2 => ?_⟩
  have e02 := (e0.trans e1).trans e2
  refine q_dropS (ea_cons (ev_var rfl) (ea_cons (ev_var rfl) ea_nil)) fun H3 e3 => ?_
  rcases q with ⟨_, k, hb, q⟩ | q
  · exact .inr ⟨al, h, k, rfl, hb, by omega, q.mono (e02.trans e3)⟩
  have hh : ∀ c ∈ h, c ∈ al := q.elim (fun h => h.2.1) fun h => h.2.1
  refine .inl ⟨al, h, rfl, hh, by omega, fun H4 e4 => ?_⟩
  have e04 := (e02.trans e3).trans e4
  refine q_dropS (ea_cons (ev_var rfl) (ea_cons (ev_var rfl) ea_nil)) fun H5 e5 => ?_
  rcases q with ⟨_, _, k, hb, q⟩ | ⟨_, _, rfl, q⟩
  · exact .inr ⟨al, r, k, rfl, hb, by omega, q.mono (e04.trans e5)⟩
  refine .inl ⟨al, [], rfl, (fun c hc => nomatch hc), by show 0 ≤ 100000; omega, fun H6 e6 => ?_⟩
  refine q_take (et_is (et_test (ev_op (ev_var rfl) ev_c (rv_eq rfl))) (by rw [nil_is, decide_eq_true rfl])) fun H7 e7 => ?_
  exact q H7 (((e04.trans e5).trans e6).trans e7)
theorem has_rndX (F : AtI K C_Round "Round.__init__" s_Round___init__) (T : Top K mg C_Round) (GO_EmptyRing : ErrO K mg "EmptyRing" C_EmptyRing)
    (g1 : Has P w K mg base "check_alphabet" s_check_alphabet ["alphabet"] 2 spCkAl) (g2 : Has P w K mg base "check_text" s_check_text ["alphabet", "text"] 1 spCkTx)
    (h1 : HasX P w K mg base "check_alphabet" s_check_alphabet ["alphabet"] 3 (fun vs H Q E => spCkAl vs H Q E ∨ spCkAlB C_BadAlphabet vs H Q E)) (h2 : HasX P w K mg base "check_text" s_check_text ["alphabet", "text"] 3 (fun vs H Q E => spCkTx vs H Q E ∨ spCkTxB C_BadLetter vs H Q E))
    (h3 : Has P w K mg base "turned_letters" s_turned_letters ["head", "ring"] 1 spTur) : HasIX P w K mg base C_Round ["self", "alphabet", "head", "ring"] 4 (fun vs H Q E => spRnd C_Round vs H Q E ∨ spRndB C_BadAlphabet C_BadLetter C_EmptyRing vs H Q E) := by
  obtain ⟨f, fd, F, M⟩ := F.ex
  exact ⟨f, fd, FnOk.both (FnOk.up ((rnd_ok F T g1 g2 h3).mono (by decide))) (rndB_ok F T GO_EmptyRing h1 h2 h3), F.binds fun _ _ _ _ _ _ us hl => match us, hl with | [_, _, _, _], _ => rfl, M⟩
end
end Ver
namespace Ver
open PySem PySem.Spec PyProof.Rows L2 Evl
section
variable {P : Program} {w : World} {K : PySem.W.Frag} {mg : Str → Option Value} {base : Heap} {C_Round : Addr} {C_PressError : Addr} {C_BadAlphabet : Addr} {C_BadLetter : Addr} {C_BadRow : Addr} {C_BadTail : Addr} {C_BadRank : Addr} {C_NotBits : Addr} {C_BadIndex : Addr} {C_BadStanding : Addr} {C_BadRule : Addr} {C_AlphabetsDiffer : Addr} {C_DoesNotComeBack : Addr} {C_TooLarge : Addr} {C_NotWritten : Addr} {C_NoSuchText : Addr} {C_BadName : Addr} {C_NameTaken : Addr} {C_NoName : Addr} {C_EmptyRing : Addr} {C_NotInLot : Addr} {C_BadBuild : Addr} {C_BadGrowth : Addr} {C_EmptyText : Addr} {C_NothingToUndo : Addr} {C_NothingToRedo : Addr}
/-- a def that is called with an error standing by -/
def HasP (P : Program) (w : World) (K : PySem.W.Frag) (mg : Str → Option Value) (base : Heap) (x : Str) (ps : List Str) (k : Nat) (sp : Addr → Value → Option Addr → Sp) : Prop :=
  ∃ f fd, FnP P w K mg base k f fd ps sp ∧ L2.Binds K fd ps [] ∧ mg x = some (.ref f) ∧ PySem.W.keepIn K (.ref f) = true
def dOk (d : Option Addr) (H : Hp) : Prop := ∀ dd, d = some dd → ∃ fs, H dd = some (.xd fs)
theorem dOk.mono {d : Option Addr} {H H' : Hp} (h : dOk d H) (e : Ex H H') : dOk d H' := fun dd x => (h dd x).imp fun fs q => e _ _ q
section
variable {σ : L2.St} {H : Hp} {ta tb : TE} {a D : Addr} {cls : Value} {d : Option Addr} {c : V} {cv : Value} {b : Bool} {cs : List V} {cvs : List Value}
theorem ev_isS (ha : Ev ta σ H (.ref a)) (hb : Ev tb σ H c) (hc : cls = .ref D) (C : ExcC K D) (hd : dOk d H) (k : ClsV c cv) (e : PySem.W.kitOne K (.ref D) cv = some b) : Ev (tCB (rIsS K a cls d) (tCons ta (tCons tb tNil))) σ H (.bl b) := fun H1 x Q q =>
  ha H1 x _ fun H2 e2 => hb H2 (x.trans e2) _ fun H3 e3 => ⟨D, c, cv, b, rfl, hc, C, hd.mono ((x.trans e2).trans e3), k, e, q H3 (e2.trans e3)⟩
theorem ev_isO (ha : Ev ta σ H (.ref a)) (hb : Ev tb σ H c) (C : ExcC K D) (hd : H a = some (ExO (.ref D) a)) (k : ClsV c cv) (e : PySem.W.kitOne K (.ref D) cv = some b) : Ev (tCB (rIsO K) (tCons ta (tCons tb tNil))) σ H (.bl b) := fun H1 x Q q =>
  ha H1 x _ fun H2 e2 => hb H2 (x.trans e2) _ fun H3 e3 => ⟨a, D, c, cv, b, rfl, C, ((x.trans e2).trans e3) _ _ hd, k, e, q H3 (e2.trans e3)⟩
theorem ev_isST (ha : Ev ta σ H (.ref a)) (hb : EvU tb σ H cs) (hc : cls = .ref D) (C : ExcC K D) (hd : dOk d H) (k : Paired ClsV cs cvs) (e : PySem.W.kitAny K (.ref D) cvs = some b) : Ev (tCB (rIsST K a cls d) (tCons ta (tCons tb tNil))) σ H (.bl b) := fun H1 x Q q =>
  ha H1 x _ fun H2 e2 => hb H2 (x.trans e2) _ fun tp H3 _ e3 g3 => ⟨D, tp, cs, cvs, b, rfl, hc, C, hd.mono ((x.trans e2).trans e3), g3, k, e, q H3 (e2.trans e3)⟩
theorem ev_isOT (ha : Ev ta σ H (.ref a)) (hb : EvU tb σ H cs) (C : ExcC K D) (hd : H a = some (ExO (.ref D) a)) (k : Paired ClsV cs cvs) (e : PySem.W.kitAny K (.ref D) cvs = some b) : Ev (tCB (rIsOT K) (tCons ta (tCons tb tNil))) σ H (.bl b) := fun H1 x Q q =>
  ha H1 x _ fun H2 e2 => hb H2 (x.trans e2) _ fun tp H3 _ e3 g3 => ⟨a, D, tp, cs, cvs, b, rfl, C, ((x.trans e2).trans e3) _ _ hd, g3, k, e, q H3 (e2.trans e3)⟩
end
/-! ### _law_whole with an error standing by -/
theorem hp_lwhole (F : At K mg "_law_whole" s__law_whole) (T : Top K mg C_Round) : HasP P w K mg base "_law_whole" ["value"] 1 (fun _ _ _ => spWhole) := by
  obtain ⟨f, fd, F, m⟩ := F.ex
  refine ⟨f, fd, okP F S__law_whole (fun a cls d vs H Q E h => ?_) (fun cdv A outer s H vs Q E p cls d hz hf hr h => ?_), F.binds fun _ _ _ _ _ _ us hl => match us, hl with | [_], _ => rfl, m, F.kp⟩
  · obtain ⟨n, rfl, _⟩ := h
    rfl
  obtain ⟨n, rfl, q⟩ := h
  refine ⟨_, (pss_one
    (ps_ret (pe_and (pe_callB call_isi rfl T.z_isinstance (by decide +kernel) (pa_cons (pv 0) (pa_cons (pe_bltn (v := .ty "int") rfl T.z_int (by decide +kernel) rfl) pa_nil))) (pe_one (pe_not (pe_callB call_isi rfl T.z_isinstance (by decide +kernel) (pa_cons (pv 0) (pa_cons (pe_bltn (v := .ty "bool") rfl T.z_bool (by decide +kernel) rfl) pa_nil)))))))), ?_⟩
  exact s_ret (ev_is (ev_andV (ev_cb (ea_cons (ev_var rfl) (ea_cons ev_c ea_nil)) (rc_isi (b := true) (by decide +kernel)))
    (fun _ => ev_notV (ev_cb (ea_cons (ev_var rfl) (ea_cons ev_c ea_nil)) (rc_isi (b := false) (by decide +kernel))))) rfl) q
/-! ### _law_alone -/
def spAlP (C : Addr) : Addr → Value → Option Addr → Sp := fun a cls d vs H Q _ => vs = [.ref a] ∧ cls = .ref C ∧ dOk d H ∧ RetV (.bl true) H Q
def spAlO (C : Addr) : Sp := fun vs H Q _ => ∃ a, vs = [.ref a] ∧ H a = some (ExO (.ref C) a) ∧ RetV (.bl true) H Q
theorem hp_alone (F : At K mg "_law_alone" s__law_alone) (T : Top K mg C_Round) (TE : ETop K mg C_PressError C_BadAlphabet C_BadLetter C_BadRow C_BadTail C_BadRank C_NotBits C_BadIndex C_BadStanding C_BadRule C_AlphabetsDiffer C_DoesNotComeBack C_TooLarge C_NotWritten C_NoSuchText C_BadName C_NameTaken C_NoName C_EmptyRing C_NotInLot C_BadBuild C_BadGrowth C_EmptyText C_NothingToUndo C_NothingToRedo) (xc : ExcC K C_EmptyRing) : HasP P w K mg base "_law_alone" ["error"] 1 (spAlP C_EmptyRing) := by
  obtain ⟨f, fd, F, m⟩ := F.ex
  refine ⟨f, fd, okP F S__law_alone (fun a cls d vs H Q E h => ?_) (fun cdv A outer s H vs Q E p cls d hz hf hr h => ?_), F.binds fun _ _ _ _ _ _ us hl => match us, hl with | [_], _ => rfl, m, F.kp⟩
  · obtain ⟨rfl, _⟩ := h
    rfl
  obtain ⟨rfl, hc, hd, q⟩ := h
  refine ⟨_, (pss_cons
    (ps_if (PW.pt (pw_or (pt_not (pt_val (by exact (pe_callB (id := "isinstance") (call_isS (p := p) (a := p.1) (K := K) rfl rfl List.mem_cons_self hz hf) rfl T.z_isinstance (by decide +kernel) (pa_cons (pv 0) (pa_cons (pe_glob (v := .ref C_EmptyRing) rfl TE.c_EmptyRing rfl) pa_nil)))))) (pw_or (pt_not (pt_val (by exact (pe_callB (id := "isinstance") (call_isS (p := p) (a := p.1) (K := K) rfl rfl List.mem_cons_self hz hf) rfl T.z_isinstance (by decide +kernel) (pa_cons (pv 0) (pa_cons (pe_glob (v := .ref C_PressError) rfl TE.c_PressError rfl) pa_nil)))))) (pw_or1 (pt_not (pt_val (by exact (pe_callB (id := "isinstance") (call_isS (p := p) (a := p.1) (K := K) rfl rfl List.mem_cons_self hz hf) rfl T.z_isinstance (by decide +kernel) (pa_cons (pv 0) (pa_cons (pe_bltn (v := .ty "ValueError") rfl T.z_ValueError (by decide +kernel) rfl) pa_nil)))))))))) (pss_one
    (ps_ret pe_bl)) pss_nil)
    (pss_cons
    (ps_if (pt_val (by exact (pe_callB (id := "isinstance") (call_isST (p := p) (a := p.1) (K := K) rfl rfl List.mem_cons_self hz hf) rfl T.z_isinstance (by decide +kernel) (pa_cons (pv 0) (pa_cons (pe_tup (pa_cons (pe_glob (v := .ref C_AlphabetsDiffer) rfl TE.c_AlphabetsDiffer rfl) (pa_cons (pe_glob (v := .ref C_BadAlphabet) rfl TE.c_BadAlphabet rfl) (pa_cons (pe_glob (v := .ref C_BadBuild) rfl TE.c_BadBuild rfl) (pa_cons (pe_glob (v := .ref C_BadIndex) rfl TE.c_BadIndex rfl) (pa_cons (pe_glob (v := .ref C_BadLetter) rfl TE.c_BadLetter rfl) (pa_cons (pe_glob (v := .ref C_BadName) rfl TE.c_BadName rfl) (pa_cons (pe_glob (v := .ref C_BadRank) rfl TE.c_BadRank rfl) pa_nil)))))))) pa_nil))))) (pss_one
    (ps_ret pe_bl)) pss_nil)
    (pss_cons
    (ps_if (pt_val (by exact (pe_callB (id := "isinstance") (call_isST (p := p) (a := p.1) (K := K) rfl rfl List.mem_cons_self hz hf) rfl T.z_isinstance (by decide +kernel) (pa_cons (pv 0) (pa_cons (pe_tup (pa_cons (pe_glob (v := .ref C_BadRow) rfl TE.c_BadRow rfl) (pa_cons (pe_glob (v := .ref C_BadRule) rfl TE.c_BadRule rfl) (pa_cons (pe_glob (v := .ref C_BadStanding) rfl TE.c_BadStanding rfl) (pa_cons (pe_glob (v := .ref C_BadTail) rfl TE.c_BadTail rfl) (pa_cons (pe_glob (v := .ref C_DoesNotComeBack) rfl TE.c_DoesNotComeBack rfl) (pa_cons (pe_glob (v := .ref C_NameTaken) rfl TE.c_NameTaken rfl) (pa_cons (pe_glob (v := .ref C_NoName) rfl TE.c_NoName rfl) (pa_cons (pe_glob (v := .ref C_NoSuchText) rfl TE.c_NoSuchText rfl) (pa_cons (pe_glob (v := .ref C_NotBits) rfl TE.c_NotBits rfl) pa_nil)))))))))) pa_nil))))) (pss_one
    (ps_ret pe_bl)) pss_nil)
    (pss_cons
    (ps_if (pt_val (by exact (pe_callB (id := "isinstance") (call_isST (p := p) (a := p.1) (K := K) rfl rfl List.mem_cons_self hz hf) rfl T.z_isinstance (by decide +kernel) (pa_cons (pv 0) (pa_cons (pe_tup (pa_cons (pe_glob (v := .ref C_BadGrowth) rfl TE.c_BadGrowth rfl) (pa_cons (pe_glob (v := .ref C_EmptyText) rfl TE.c_EmptyText rfl) (pa_cons (pe_glob (v := .ref C_NothingToRedo) rfl TE.c_NothingToRedo rfl) (pa_cons (pe_glob (v := .ref C_NothingToUndo) rfl TE.c_NothingToUndo rfl) pa_nil))))) pa_nil))))) (pss_one
    (ps_ret pe_bl)) pss_nil)
    (pss_one
    (ps_ret (pe_not (by exact (pe_callB (id := "isinstance") (call_isST (p := p) (a := p.1) (K := K) rfl rfl List.mem_cons_self hz hf) rfl T.z_isinstance (by decide +kernel) (pa_cons (pv 0) (pa_cons (pe_tup (pa_cons (pe_glob (v := .ref C_NotInLot) rfl TE.c_NotInLot rfl) (pa_cons (pe_glob (v := .ref C_NotWritten) rfl TE.c_NotWritten rfl) (pa_cons (pe_glob (v := .ref C_TooLarge) rfl TE.c_TooLarge rfl) pa_nil)))) pa_nil))))))))))), ?_⟩
  refine q_skip (et_is (et_or (et_not (et_B (ev_isS (ev_var rfl) ev_c hc xc hd (.own _) TE.kt_EmptyRing_EmptyRing))) (fun _ => et_or (et_not (et_B (ev_isS (ev_var rfl) ev_c hc xc hd (.own _) TE.kt_EmptyRing_PressError))) (fun _ => et_not (et_B (ev_isS (ev_var rfl) ev_c hc xc hd (.ty _) TE.kt_EmptyRing_VE))))) rfl) fun H1 e1 => ?_
  have k7 : PySem.W.kitAny K (.ref C_EmptyRing) [.ref C_AlphabetsDiffer, .ref C_BadAlphabet, .ref C_BadBuild, .ref C_BadIndex, .ref C_BadLetter, .ref C_BadName, .ref C_BadRank] = some false := kitAny_none _ (by simp [TE.kt_EmptyRing_AlphabetsDiffer, TE.kt_EmptyRing_BadAlphabet, TE.kt_EmptyRing_BadBuild, TE.kt_EmptyRing_BadIndex, TE.kt_EmptyRing_BadLetter, TE.kt_EmptyRing_BadName, TE.kt_EmptyRing_BadRank])
  have k9 : PySem.W.kitAny K (.ref C_EmptyRing) [.ref C_BadRow, .ref C_BadRule, .ref C_BadStanding, .ref C_BadTail, .ref C_DoesNotComeBack, .ref C_NameTaken, .ref C_NoName, .ref C_NoSuchText, .ref C_NotBits] = some false := kitAny_none _ (by simp [TE.kt_EmptyRing_BadRow, TE.kt_EmptyRing_BadRule, TE.kt_EmptyRing_BadStanding, TE.kt_EmptyRing_BadTail, TE.kt_EmptyRing_DoesNotComeBack, TE.kt_EmptyRing_NameTaken, TE.kt_EmptyRing_NoName, TE.kt_EmptyRing_NoSuchText, TE.kt_EmptyRing_NotBits])
  have k4 : PySem.W.kitAny K (.ref C_EmptyRing) [.ref C_BadGrowth, .ref C_EmptyText, .ref C_NothingToRedo, .ref C_NothingToUndo] = some false := kitAny_none _ (by simp [TE.kt_EmptyRing_BadGrowth, TE.kt_EmptyRing_EmptyText, TE.kt_EmptyRing_NothingToRedo, TE.kt_EmptyRing_NothingToUndo])
  have k3 : PySem.W.kitAny K (.ref C_EmptyRing) [.ref C_NotInLot, .ref C_NotWritten, .ref C_TooLarge] = some false := kitAny_none _ (by simp [TE.kt_EmptyRing_NotInLot, TE.kt_EmptyRing_NotWritten, TE.kt_EmptyRing_TooLarge])
  refine q_skip (et_B (ev_isST (ev_var rfl) (eu_tup (ea_cons ev_c (ea_cons ev_c (ea_cons ev_c (ea_cons ev_c (ea_cons ev_c (ea_cons ev_c (ea_cons ev_c ea_nil))))))) (by show 7 ≤ 100000; decide)) hc xc (hd.mono e1) (.cons (.own _) (.cons (.own _) (.cons (.own _) (.cons (.own _) (.cons (.own _) (.cons (.own _) (.cons (.own _) .nil))))))) k7)) fun H2 e2 => ?_
  have e12 := e1.trans e2
  refine q_skip (et_B (ev_isST (ev_var rfl) (eu_tup (ea_cons ev_c (ea_cons ev_c (ea_cons ev_c (ea_cons ev_c (ea_cons ev_c (ea_cons ev_c (ea_cons ev_c (ea_cons ev_c (ea_cons ev_c ea_nil))))))))) (by show 9 ≤ 100000; decide)) hc xc (hd.mono e12) (.cons (.own _) (.cons (.own _) (.cons (.own _) (.cons (.own _) (.cons (.own _) (.cons (.own _) (.cons (.own _) (.cons (.own _) (.cons (.own _) .nil))))))))) k9)) fun H3 e3 => ?_
  have e13 := e12.trans e3
  refine q_skip (et_B (ev_isST (ev_var rfl) (eu_tup (ea_cons ev_c (ea_cons ev_c (ea_cons ev_c (ea_cons ev_c ea_nil)))) (by show 4 ≤ 100000; decide)) hc xc (hd.mono e13) (.cons (.own _) (.cons (.own _) (.cons (.own _) (.cons (.own _) .nil)))) k4)) fun H4 e4 => ?_
  have e14 := e13.trans e4
  exact s_ret (ev_is (ev_notV (ev_isST (ev_var rfl) (eu_tup (ea_cons ev_c (ea_cons ev_c (ea_cons ev_c ea_nil))) (by show 3 ≤ 100000; decide)) hc xc (hd.mono e14) (.cons (.own _) (.cons (.own _) (.cons (.own _) .nil))) k3)) rfl) fun H5 e5 => q H5 (e14.trans e5)
theorem has_alone (F : At K mg "_law_alone" s__law_alone) (T : Top K mg C_Round) (TE : ETop K mg C_PressError C_BadAlphabet C_BadLetter C_BadRow C_BadTail C_BadRank C_NotBits C_BadIndex C_BadStanding C_BadRule C_AlphabetsDiffer C_DoesNotComeBack C_TooLarge C_NotWritten C_NoSuchText C_BadName C_NameTaken C_NoName C_EmptyRing C_NotInLot C_BadBuild C_BadGrowth C_EmptyText C_NothingToUndo C_NothingToRedo) (xc : ExcC K C_EmptyRing) : Has P w K mg base "_law_alone" s__law_alone ["error"] 1 (spAlO C_EmptyRing) := by
  obtain ⟨f, fd, F, m⟩ := F.ex
  refine ⟨f, fd, F, F.ok S__law_alone (fun vs H Q E h => ?_) (fun cdv A outer s H vs Q E hr h => ?_), F.binds fun _ _ _ _ _ _ us hl => match us, hl with | [_], _ => rfl, m, F.kp⟩
  · obtain ⟨a, rfl, _⟩ := h
    rfl
  obtain ⟨a, rfl, hd, q⟩ := h
  refine ⟨_, (pss_cons
    (ps_if (PW.pt (pw_or (pt_not (pt_val (by exact (pe_callB call_isO rfl T.z_isinstance (by decide +kernel) (pa_cons (pv 0) (pa_cons (pe_glob (v := .ref C_EmptyRing) rfl TE.c_EmptyRing rfl) pa_nil)))))) (pw_or (pt_not (pt_val (by exact (pe_callB call_isO rfl T.z_isinstance (by decide +kernel) (pa_cons (pv 0) (pa_cons (pe_glob (v := .ref C_PressError) rfl TE.c_PressError rfl) pa_nil)))))) (pw_or1 (pt_not (pt_val (by exact (pe_callB call_isO rfl T.z_isinstance (by decide +kernel) (pa_cons (pv 0) (pa_cons (pe_bltn (v := .ty "ValueError") rfl T.z_ValueError (by decide +kernel) rfl) pa_nil)))))))))) (pss_one
    (ps_ret pe_bl)) pss_nil)
    (pss_cons
    (ps_if (pt_val (by exact (pe_callB call_isOT rfl T.z_isinstance (by decide +kernel) (pa_cons (pv 0) (pa_cons (pe_tup (pa_cons (pe_glob (v := .ref C_AlphabetsDiffer) rfl TE.c_AlphabetsDiffer rfl) (pa_cons (pe_glob (v := .ref C_BadAlphabet) rfl TE.c_BadAlphabet rfl) (pa_cons (pe_glob (v := .ref C_BadBuild) rfl TE.c_BadBuild rfl) (pa_cons (pe_glob (v := .ref C_BadIndex) rfl TE.c_BadIndex rfl) (pa_cons (pe_glob (v := .ref C_BadLetter) rfl TE.c_BadLetter rfl) (pa_cons (pe_glob (v := .ref C_BadName) rfl TE.c_BadName rfl) (pa_cons (pe_glob (v := .ref C_BadRank) rfl TE.c_BadRank rfl) pa_nil)))))))) pa_nil))))) (pss_one
    (ps_ret pe_bl)) pss_nil)
    (pss_cons
    (ps_if (pt_val (by exact (pe_callB call_isOT rfl T.z_isinstance (by decide +kernel) (pa_cons (pv 0) (pa_cons (pe_tup (pa_cons (pe_glob (v := .ref C_BadRow) rfl TE.c_BadRow rfl) (pa_cons (pe_glob (v := .ref C_BadRule) rfl TE.c_BadRule rfl) (pa_cons (pe_glob (v := .ref C_BadStanding) rfl TE.c_BadStanding rfl) (pa_cons (pe_glob (v := .ref C_BadTail) rfl TE.c_BadTail rfl) (pa_cons (pe_glob (v := .ref C_DoesNotComeBack) rfl TE.c_DoesNotComeBack rfl) (pa_cons (pe_glob (v := .ref C_NameTaken) rfl TE.c_NameTaken rfl) (pa_cons (pe_glob (v := .ref C_NoName) rfl TE.c_NoName rfl) (pa_cons (pe_glob (v := .ref C_NoSuchText) rfl TE.c_NoSuchText rfl) (pa_cons (pe_glob (v := .ref C_NotBits) rfl TE.c_NotBits rfl) pa_nil)))))))))) pa_nil))))) (pss_one
    (ps_ret pe_bl)) pss_nil)
    (pss_cons
    (ps_if (pt_val (by exact (pe_callB call_isOT rfl T.z_isinstance (by decide +kernel) (pa_cons (pv 0) (pa_cons (pe_tup (pa_cons (pe_glob (v := .ref C_BadGrowth) rfl TE.c_BadGrowth rfl) (pa_cons (pe_glob (v := .ref C_EmptyText) rfl TE.c_EmptyText rfl) (pa_cons (pe_glob (v := .ref C_NothingToRedo) rfl TE.c_NothingToRedo rfl) (pa_cons (pe_glob (v := .ref C_NothingToUndo) rfl TE.c_NothingToUndo rfl) pa_nil))))) pa_nil))))) (pss_one
    (ps_ret pe_bl)) pss_nil)
    (pss_one
    (ps_ret (pe_not (by exact (pe_callB call_isOT rfl T.z_isinstance (by decide +kernel) (pa_cons (pv 0) (pa_cons (pe_tup (pa_cons (pe_glob (v := .ref C_NotInLot) rfl TE.c_NotInLot rfl) (pa_cons (pe_glob (v := .ref C_NotWritten) rfl TE.c_NotWritten rfl) (pa_cons (pe_glob (v := .ref C_TooLarge) rfl TE.c_TooLarge rfl) pa_nil)))) pa_nil))))))))))), ?_⟩
  refine q_skip (et_is (et_or (et_not (et_B (ev_isO (ev_var rfl) ev_c xc hd (.own _) TE.kt_EmptyRing_EmptyRing))) (fun _ => et_or (et_not (et_B (ev_isO (ev_var rfl) ev_c xc hd (.own _) TE.kt_EmptyRing_PressError))) (fun _ => et_not (et_B (ev_isO (ev_var rfl) ev_c xc hd (.ty _) TE.kt_EmptyRing_VE))))) rfl) fun H1 e1 => ?_
  have k7 : PySem.W.kitAny K (.ref C_EmptyRing) [.ref C_AlphabetsDiffer, .ref C_BadAlphabet, .ref C_BadBuild, .ref C_BadIndex, .ref C_BadLetter, .ref C_BadName, .ref C_BadRank] = some false := kitAny_none _ (by simp [TE.kt_EmptyRing_AlphabetsDiffer, TE.kt_EmptyRing_BadAlphabet, TE.kt_EmptyRing_BadBuild, TE.kt_EmptyRing_BadIndex, TE.kt_EmptyRing_BadLetter, TE.kt_EmptyRing_BadName, TE.kt_EmptyRing_BadRank])
  have k9 : PySem.W.kitAny K (.ref C_EmptyRing) [.ref C_BadRow, .ref C_BadRule, .ref C_BadStanding, .ref C_BadTail, .ref C_DoesNotComeBack, .ref C_NameTaken, .ref C_NoName, .ref C_NoSuchText, .ref C_NotBits] = some false := kitAny_none _ (by simp [TE.kt_EmptyRing_BadRow, TE.kt_EmptyRing_BadRule, TE.kt_EmptyRing_BadStanding, TE.kt_EmptyRing_BadTail, TE.kt_EmptyRing_DoesNotComeBack, TE.kt_EmptyRing_NameTaken, TE.kt_EmptyRing_NoName, TE.kt_EmptyRing_NoSuchText, TE.kt_EmptyRing_NotBits])
  have k4 : PySem.W.kitAny K (.ref C_EmptyRing) [.ref C_BadGrowth, .ref C_EmptyText, .ref C_NothingToRedo, .ref C_NothingToUndo] = some false := kitAny_none _ (by simp [TE.kt_EmptyRing_BadGrowth, TE.kt_EmptyRing_EmptyText, TE.kt_EmptyRing_NothingToRedo, TE.kt_EmptyRing_NothingToUndo])
  have k3 : PySem.W.kitAny K (.ref C_EmptyRing) [.ref C_NotInLot, .ref C_NotWritten, .ref C_TooLarge] = some false := kitAny_none _ (by simp [TE.kt_EmptyRing_NotInLot, TE.kt_EmptyRing_NotWritten, TE.kt_EmptyRing_TooLarge])
  refine q_skip (et_B (ev_isOT (ev_var rfl) (eu_tup (ea_cons ev_c (ea_cons ev_c (ea_cons ev_c (ea_cons ev_c (ea_cons ev_c (ea_cons ev_c (ea_cons ev_c ea_nil))))))) (by show 7 ≤ 100000; decide)) xc (e1 _ _ hd) (.cons (.own _) (.cons (.own _) (.cons (.own _) (.cons (.own _) (.cons (.own _) (.cons (.own _) (.cons (.own _) .nil))))))) k7)) fun H2 e2 => ?_
  have e12 := e1.trans e2
  refine q_skip (et_B (ev_isOT (ev_var rfl) (eu_tup (ea_cons ev_c (ea_cons ev_c (ea_cons ev_c (ea_cons ev_c (ea_cons ev_c (ea_cons ev_c (ea_cons ev_c (ea_cons ev_c (ea_cons ev_c ea_nil))))))))) (by show 9 ≤ 100000; decide)) xc (e12 _ _ hd) (.cons (.own _) (.cons (.own _) (.cons (.own _) (.cons (.own _) (.cons (.own _) (.cons (.own _) (.cons (.own _) (.cons (.own _) (.cons (.own _) .nil))))))))) k9)) fun H3 e3 => ?_
  have e13 := e12.trans e3
  refine q_skip (et_B (ev_isOT (ev_var rfl) (eu_tup (ea_cons ev_c (ea_cons ev_c (ea_cons ev_c (ea_cons ev_c ea_nil)))) (by show 4 ≤ 100000; decide)) xc (e13 _ _ hd) (.cons (.own _) (.cons (.own _) (.cons (.own _) (.cons (.own _) .nil)))) k4)) fun H4 e4 => ?_
  have e14 := e13.trans e4
  exact s_ret (ev_is (ev_notV (ev_isOT (ev_var rfl) (eu_tup (ea_cons ev_c (ea_cons ev_c (ea_cons ev_c ea_nil))) (by show 3 ≤ 100000; decide)) xc (e14 _ _ hd) (.cons (.own _) (.cons (.own _) (.cons (.own _) .nil))) k3)) rfl) fun H5 e5 => q H5 (e14.trans e5)
end
end Ver
namespace Ver
open PySem PySem.Spec PyProof.Rows L2 Evl
section
variable {P : Program} {w : World} {K : PySem.W.Frag} {mg : Str → Option Value} {base : Heap} {C_Round : Addr} {C_PressError : Addr} {C_BadAlphabet : Addr} {C_BadLetter : Addr} {C_BadRow : Addr} {C_BadTail : Addr} {C_BadRank : Addr} {C_NotBits : Addr} {C_BadIndex : Addr} {C_BadStanding : Addr} {C_BadRule : Addr} {C_AlphabetsDiffer : Addr} {C_DoesNotComeBack : Addr} {C_TooLarge : Addr} {C_NotWritten : Addr} {C_NoSuchText : Addr} {C_BadName : Addr} {C_NameTaken : Addr} {C_NoName : Addr} {C_EmptyRing : Addr} {C_NotInLot : Addr} {C_BadBuild : Addr} {C_BadGrowth : Addr} {C_EmptyText : Addr} {C_NothingToUndo : Addr} {C_NothingToRedo : Addr}
section
variable {σ : L2.St} {H : Hp} {te : TE}
theorem ev_xp {a C dd : Addr} {cls : Value} {d : Option Addr} {fs : List (Str × V)} {f : Str} {v : V} (h : Ev te σ H (.ref a)) (hc : cls = .ref C) (hd : d = some dd) (hx : H dd = some (.xd fs)) (hl : fs.lookup f = some v) : Ev (tXp a cls d C f te) σ H v := fun H1 e Q q =>
  h H1 e _ fun H2 e2 => ⟨rfl, hc, dd, fs, v, hd, (e.trans e2) _ _ hx, hl, q H2 e2⟩
theorem q_tryMake {D : Ends} {tz : TS} {C : Addr} {sp : Sp} {ta : TA} {vs : List V} {i : Nat} {Wout : WX} {l : List (Value × Suite)} (h : EvA ta σ H vs)
    (k : ∀ H1, Ex H H1 → ∀ x dx, H1 x = none → H1 dx = none → dx ≠ x → sp (.ref x :: vs) (L2.upd (L2.upd H1 dx (.own x)) x (.ins C dx [])) (fun v H2 => v = .non ∧ tz D σ H2) (fun cls d H' => wMas K i Wout { D with nx := tz D } l cls d σ H')) :
    tSeq (fun D σ H => tDrop (tMakeS C sp (WE (wMas K i Wout D l)) ta) D σ H) tz D σ H := h H (Ex.refl H) _ fun H1 e1 x dx h1 h2 h3 => k H1 e1 x dx h1 h2 h3
end
theorem dOk_some {dd : Addr} {fs : List (Str × V)} {H : Hp} (h : H dd = some (.xd fs)) : dOk (some dd) H := fun x e => by
  cases e
  exact ⟨fs, h⟩
theorem dOk_none {H : Hp} : dOk none H := fun x e => nomatch e
/-! ### _law_refused -/
/-- what Round(abc, front, circle) comes to -/
def refd (al h r : List Nat) (s : Str) (v : V) : Prop :=
  (¬ Alf al ∧ s = ("alphabet" : Str) ∧ v = tx al) ∨ (Alf al ∧ ∃ k, bad1 al h k ∧ s = ("letter" : Str) ∧ v = .int (k : Int)) ∨ (Alf al ∧ (∀ c ∈ h, c ∈ al) ∧ ∃ k, bad1 al r k ∧ s = ("letter" : Str) ∧ v = .int (k : Int)) ∨
    (Alf al ∧ (∀ c ∈ h, c ∈ al) ∧ r = [] ∧ s = ("ring" : Str) ∧ v = .int 0) ∨ (Alf al ∧ (∀ c ∈ h, c ∈ al) ∧ (∀ c ∈ r, c ∈ al) ∧ 0 < r.length ∧ s = ("none" : Str) ∧ v = .int 0)
def spRef : Sp := fun vs H Q _ => ∃ (al h r : List Nat) (s : Str) (v : V), vs = [tx al, tx h, tx r] ∧ al.length ≤ 1000 ∧ h.length ≤ 1000 ∧ r.length ≤ 1000 ∧ refd al h r s v ∧ RetL [.str s, v] H Q
theorem has_ref (F : At K mg "_law_refused" s__law_refused) (T : Top K mg C_Round) (TE : ETop K mg C_PressError C_BadAlphabet C_BadLetter C_BadRow C_BadTail C_BadRank C_NotBits C_BadIndex C_BadStanding C_BadRule C_AlphabetsDiffer C_DoesNotComeBack C_TooLarge C_NotWritten C_NoSuchText C_BadName C_NameTaken C_NoName C_EmptyRing C_NotInLot C_BadBuild C_BadGrowth C_EmptyText C_NothingToUndo C_NothingToRedo) (GE_BadAlphabet : Er_BadAlphabet P w K mg base C_BadAlphabet) (GE_BadLetter : Er_BadLetter P w K mg base C_BadLetter) (GO_EmptyRing : ErrO K mg "EmptyRing" C_EmptyRing)
    (h2 : HasIX P w K mg base C_Round ["self", "alphabet", "head", "ring"] 4 (fun vs H Q E => spRnd C_Round vs H Q E ∨ spRndB C_BadAlphabet C_BadLetter C_EmptyRing vs H Q E)) (h3 : HasP P w K mg base "_law_whole" ["value"] 1 (fun _ _ _ => spWhole))
    (h4 : HasP P w K mg base "_law_alone" ["error"] 1 (spAlP C_EmptyRing)) : Has P w K mg base "_law_refused" s__law_refused ["abc", "front", "circle"] 6 spRef := by
  obtain ⟨f, fd, F, m⟩ := F.ex
  obtain ⟨f2, fd2, GX_Round___init__, b_Round___init__, mk_Round⟩ := h2
  obtain ⟨f3, fd3, GP__law_whole, b__law_whole, m__law_whole, k__law_whole⟩ := h3
  obtain ⟨f4, fd4, GP__law_alone, b__law_alone, m__law_alone, k__law_alone⟩ := h4
  refine ⟨f, fd, F, F.ok S__law_refused (fun vs H Q E h => ?_) (fun cdv A outer s H vs Q E hr h => ?_), F.binds fun _ _ _ _ _ _ us hl => match us, hl with | [_, _, _], _ => rfl, m, F.kp⟩
  · obtain ⟨al, h, r, s, v, rfl, _⟩ := h
    rfl
  obtain ⟨al, h, r, sg, v, rfl, z1, z2, z3, ref, q⟩ := h
  refine ⟨_, (pss_cons
    (ps_try_mas (i := 3) rfl rfl S__law_refused.nd rfl rfl takes0 (fun W pn xe tk _ => (by exact (pss_one
    (ps_expr (pe_makeS mk_Round GX_Round___init__ (hr.mono (by decide)) rfl T.c_Round b_Round___init__ (fun σ => passAt tk σ) (pa_cons (pv 0) (pa_cons (pv 1) (pa_cons (pv 2) pa_nil)))))))) (by exact (HdsAs.cons ⟨rfl, by decide, .inl TE.c_BadAlphabet⟩ (fun a oe cls d pn hz hf => (by exact (pss_cons
    (ps_if (PW.pt (pw_or (pt_val (by exact (pe_callB (id := "isinstance") (call_isS (p := (a, oe)) (a := a) (K := K) rfl rfl List.mem_cons_self hz hf) rfl T.z_isinstance (by decide +kernel) (pa_cons (pv 3) (pa_cons (pe_glob (v := .ref C_BadLetter) rfl TE.c_BadLetter rfl) pa_nil))))) (pw_or (pt_val (by exact (pe_callB (id := "isinstance") (call_isS (p := (a, oe)) (a := a) (K := K) rfl rfl List.mem_cons_self hz hf) rfl T.z_isinstance (by decide +kernel) (pa_cons (pv 3) (pa_cons (pe_glob (v := .ref C_EmptyRing) rfl TE.c_EmptyRing rfl) pa_nil))))) (pw_or (pt_not (pt_val (by exact (pe_callB (id := "isinstance") (call_isS (p := (a, oe)) (a := a) (K := K) rfl rfl List.mem_cons_self hz hf) rfl T.z_isinstance (by decide +kernel) (pa_cons (pv 3) (pa_cons (pe_glob (v := .ref C_PressError) rfl TE.c_PressError rfl) pa_nil)))))) (pw_or1 (pt_not (pt_val (by exact (pe_callB (id := "isinstance") (call_isS (p := (a, oe)) (a := a) (K := K) rfl rfl List.mem_cons_self hz hf) rfl T.z_isinstance (by decide +kernel) (pa_cons (pv 3) (pa_cons (pe_bltn (v := .ty "ValueError") rfl T.z_ValueError (by decide +kernel) rfl) pa_nil))))))))))) (pss_one
    (ps_ret (pe_lst (pa_cons pe_str (pa_cons pe_int pa_nil))))) pss_nil)
    (pss_one
    (ps_ret (pe_lst (pa_cons pe_str (pa_cons (by exact pe_xp (p := (a, oe)) (a := a) rfl List.mem_cons_self GE_BadAlphabet.xf TE.nf_BadAlphabet_alphabet hz hf (pv 3)) pa_nil)))))))) (HdsAs.cons ⟨rfl, by decide, .inl TE.c_BadLetter⟩ (fun a oe cls d pn hz hf => (by exact (pss_cons
    (ps_if (PW.pt (pw_or (pt_val (by exact (pe_callB (id := "isinstance") (call_isS (p := (a, oe)) (a := a) (K := K) rfl rfl List.mem_cons_self hz hf) rfl T.z_isinstance (by decide +kernel) (pa_cons (pv 3) (pa_cons (pe_glob (v := .ref C_EmptyRing) rfl TE.c_EmptyRing rfl) pa_nil))))) (pw_or (pt_not (pt_val (by exact (pe_callB (id := "isinstance") (call_isS (p := (a, oe)) (a := a) (K := K) rfl rfl List.mem_cons_self hz hf) rfl T.z_isinstance (by decide +kernel) (pa_cons (pv 3) (pa_cons (pe_glob (v := .ref C_PressError) rfl TE.c_PressError rfl) pa_nil)))))) (pw_or (pt_not (pt_val (by exact (pe_callB (id := "isinstance") (call_isS (p := (a, oe)) (a := a) (K := K) rfl rfl List.mem_cons_self hz hf) rfl T.z_isinstance (by decide +kernel) (pa_cons (pv 3) (pa_cons (pe_bltn (v := .ty "ValueError") rfl T.z_ValueError (by decide +kernel) rfl) pa_nil)))))) (pw_or1 (pt_not (pt_val (by exact pe_callP (p := (a, oe)) (a := a) rfl GP__law_whole (roomM (hr.mono (j := 1) (by decide))) List.mem_cons_self hz hf rfl m__law_whole k__law_whole b__law_whole (pa_cons (by exact pe_xp (p := (a, oe)) (a := a) rfl List.mem_cons_self GE_BadLetter.xf TE.nf_BadLetter_index hz hf (pv 3)) pa_nil))))))))) (pss_one
    (ps_ret (pe_lst (pa_cons pe_str (pa_cons pe_int pa_nil))))) pss_nil)
    (pss_one
    (ps_ret (pe_lst (pa_cons pe_str (pa_cons (by exact pe_xp (p := (a, oe)) (a := a) rfl List.mem_cons_self GE_BadLetter.xf TE.nf_BadLetter_index hz hf (pv 3)) pa_nil)))))))) (HdsAs.cons ⟨rfl, by decide, .inl TE.c_EmptyRing⟩ (fun a oe cls d pn hz hf => (by exact (pss_cons
    (ps_if (pt_not (pt_val (by exact pe_callP (p := (a, oe)) (a := a) rfl GP__law_alone (roomM (hr.mono (j := 1) (by decide))) List.mem_cons_self hz hf rfl m__law_alone k__law_alone b__law_alone (pa_cons (pv 3) pa_nil)))) (pss_one
    (ps_ret (pe_lst (pa_cons pe_str (pa_cons pe_int pa_nil))))) pss_nil)
    (pss_one
    (ps_ret (pe_lst (pa_cons pe_str (pa_cons pe_int pa_nil)))))))) HdsAs.nil)))))
    (pss_one
    (ps_ret (pe_lst (pa_cons pe_str (pa_cons pe_int pa_nil)))))), ?_⟩
  refine q_tryMake (vs := [tx al, tx h, tx r]) (ea_cons (ev_var rfl) (ea_cons (ev_var rfl) (ea_cons (ev_var rfl) ea_nil))) fun H1 e1 x dx hx hdx ne => ?_
  have g1 : Ex H1 (L2.upd (L2.upd H1 dx (.own x)) x (.ins C_Round dx [])) := (Ex.new hdx).trans (Ex.new (by rw [upd_ne ne.symm]; exact hx))
  have xA := GE_BadAlphabet.ec
  have xL := GE_BadLetter.ec
  have xR := GO_EmptyRing.ec
  rcases ref with ⟨hA, rfl, rfl⟩ | ⟨hA, k, hb, rfl, rfl⟩ | ⟨hA, hh, k, hb, rfl, rfl⟩ | ⟨hA, hh, rfl, rfl, rfl⟩ | ⟨hA, hh, hr2, r1, rfl, rfl⟩
  · refine .inr ⟨al, h, r, x, H1, rfl, g1, by omega, by omega, by omega, .inl ⟨hA, fun d H2 e2 hd h2 => ?_⟩⟩
    refine ⟨true, TE.ex_BadAlphabet_BadAlphabet, fun _ a ha => ?_, fun z => (nomatch z)⟩
    have dd := dOk_some h2
    refine q_skip (et_is (et_or (et_B (ev_isS (ev_var rfl) ev_c rfl xA dd (.own _) TE.kt_BadAlphabet_BadLetter)) (fun _ => et_or (et_B (ev_isS (ev_var rfl) ev_c rfl xA dd (.own _) TE.kt_BadAlphabet_EmptyRing)) (fun _ => et_or (et_not (et_B (ev_isS (ev_var rfl) ev_c rfl xA dd (.own _) TE.kt_BadAlphabet_PressError))) (fun _ => et_not (et_B (ev_isS (ev_var rfl) ev_c rfl xA dd (.ty _) TE.kt_BadAlphabet_VE)))))) rfl) fun H3 e3 => ?_
    refine s_retL (xs := [.str ("alphabet" : Str), tx al]) (el_lst (ea_cons ev_c (ea_cons (ev_xp (ev_var rfl) rfl rfl (e3 _ _ h2) rfl) ea_nil)) (by show 2 ≤ 100000; decide)) fun l H4 hl e4 g4 => q l H4 (fresh_back ((e1.trans e2).trans e3) hl) (((e1.trans e2).trans e3).trans e4) g4
  · refine .inr ⟨al, h, r, x, H1, rfl, g1, by omega, by omega, by omega, .inr (.inl ⟨hA, k, hb, fun d H2 e2 hd h2 => ?_⟩)⟩
    refine ⟨false, TE.ex_BadLetter_BadAlphabet, fun z => (nomatch z), fun _ => ⟨true, TE.ex_BadLetter_BadLetter, fun _ a ha => ?_, fun z => (nomatch z)⟩⟩
    have dd := dOk_some h2
    refine q_skip (et_is (et_or (et_B (ev_isS (ev_var rfl) ev_c rfl xL dd (.own _) TE.kt_BadLetter_EmptyRing)) (fun _ => et_or (et_not (et_B (ev_isS (ev_var rfl) ev_c rfl xL dd (.own _) TE.kt_BadLetter_PressError))) (fun _ => et_or (et_not (et_B (ev_isS (ev_var rfl) ev_c rfl xL dd (.ty _) TE.kt_BadLetter_VE))) (fun _ => et_not (et_B (ev_call (z := .bl true) (ea_cons (ev_xp (ev_var rfl) rfl rfl h2 rfl) ea_nil) (fun H3 e3 Q' q' E' => ⟨(k : Int), rfl, q'⟩))))))) rfl) fun H3 e3 => ?_
    refine s_retL (xs := [.str ("letter" : Str), .int (k : Int)]) (el_lst (ea_cons ev_c (ea_cons (ev_xp (ev_var rfl) rfl rfl (e3 _ _ h2) rfl) ea_nil)) (by show 2 ≤ 100000; decide)) fun l H4 hl e4 g4 => q l H4 (fresh_back ((e1.trans e2).trans e3) hl) (((e1.trans e2).trans e3).trans e4) g4
  · refine .inr ⟨al, h, r, x, H1, rfl, g1, by omega, by omega, by omega, .inr (.inr (.inl ⟨hA, hh, k, hb, fun d H2 e2 hd h2 => ?_⟩))⟩
    refine ⟨false, TE.ex_BadLetter_BadAlphabet, fun z => (nomatch z), fun _ => ⟨true, TE.ex_BadLetter_BadLetter, fun _ a ha => ?_, fun z => (nomatch z)⟩⟩
    have dd := dOk_some h2
    refine q_skip (et_is (et_or (et_B (ev_isS (ev_var rfl) ev_c rfl xL dd (.own _) TE.kt_BadLetter_EmptyRing)) (fun _ => et_or (et_not (et_B (ev_isS (ev_var rfl) ev_c rfl xL dd (.own _) TE.kt_BadLetter_PressError))) (fun _ => et_or (et_not (et_B (ev_isS (ev_var rfl) ev_c rfl xL dd (.ty _) TE.kt_BadLetter_VE))) (fun _ => et_not (et_B (ev_call (z := .bl true) (ea_cons (ev_xp (ev_var rfl) rfl rfl h2 rfl) ea_nil) (fun H3 e3 Q' q' E' => ⟨(k : Int), rfl, q'⟩))))))) rfl) fun H3 e3 => ?_
    refine s_retL (xs := [.str ("letter" : Str), .int (k : Int)]) (el_lst (ea_cons ev_c (ea_cons (ev_xp (ev_var rfl) rfl rfl (e3 _ _ h2) rfl) ea_nil)) (by show 2 ≤ 100000; decide)) fun l H4 hl e4 g4 => q l H4 (fresh_back ((e1.trans e2).trans e3) hl) (((e1.trans e2).trans e3).trans e4) g4
  · refine .inr ⟨al, h, [], x, H1, rfl, g1, by omega, by omega, by show 0 ≤ 40000; omega, .inr (.inr (.inr ⟨hA, hh, rfl, fun H2 e2 => ?_⟩))⟩
    refine ⟨false, TE.ex_EmptyRing_BadAlphabet, fun z => (nomatch z), fun _ => ⟨false, TE.ex_EmptyRing_BadLetter, fun z => (nomatch z), fun _ => ⟨true, TE.ex_EmptyRing_EmptyRing, fun _ a ha => ?_, fun z => (nomatch z)⟩⟩⟩
    refine q_skip (et_is (et_not (et_B (ev_call (z := .bl true) (ea_cons (ev_var rfl) ea_nil) (fun H3 e3 Q' q' E' => ⟨rfl, rfl, dOk_none, q'⟩)))) rfl) fun H3 e3 => ?_
    refine s_retL (xs := [.str ("ring" : Str), .int 0]) (el_lst (ea_cons ev_c (ea_cons ev_c ea_nil)) (by show 2 ≤ 100000; decide)) fun l H4 hl e4 g4 => q l H4 (fresh_back ((e1.trans e2).trans e3) hl) (((e1.trans e2).trans e3).trans e4) g4
  · refine .inl ⟨al, h, r, x, dx, H1, rfl, g1, hx, upd_same, hA, hh, hr2, r1, z3, z2, fun H2 N e2 hN hR _ => ⟨rfl, ?_⟩⟩
    refine s_retL (xs := [.str ("none" : Str), .int 0]) (el_lst (ea_cons ev_c (ea_cons ev_c ea_nil)) (by show 2 ≤ 100000; decide)) fun l H4 hl e4 g4 => q l H4 (fresh_back (e1.trans e2) hl) ((e1.trans e2).trans e4) g4
end
end Ver
namespace Ver
open PySem PySem.Spec PyProof.Rows L2 Evl
/-! ### values told by a predicate -/
def EvM (te : TE) (σ : L2.St) (H : Hp) (P : V → Hp → Prop) : Prop := ∀ H1, Ex H H1 → ∀ Q : VK, (∀ x H2, Ex H1 H2 → P x H2 → Q x H2) → te σ H1 Q
def EvMA (ta : TA) (σ : L2.St) (H : Hp) (P : V → Hp → Prop) : Prop := ∀ H1, Ex H H1 → ∀ Q : List V → Hp → Prop, (∀ xs H2, Ex H1 H2 → xs.length ≤ 50 → (∀ x ∈ xs, P x H2) → Q xs H2) → ta σ H1 Q
def EvMA' (n : Nat) (ta : TA) (σ : L2.St) (H : Hp) (P : V → Hp → Prop) : Prop := ∀ H1, Ex H H1 → ∀ Q : List V → Hp → Prop, (∀ xs H2, Ex H1 H2 → xs.length = n → (∀ x ∈ xs, P x H2) → Q xs H2) → ta σ H1 Q
def EvML (n : Nat) (te : TE) (σ : L2.St) (H : Hp) (P : V → Hp → Prop) : Prop := ∀ H1, Ex H H1 → ∀ Q : VK, (∀ p xs H2, Ex H1 H2 → H2 p = some (.lst xs) → xs.length = n → (∀ x ∈ xs, P x H2) → Q (.ref p) H2) → te σ H1 Q
section
variable {σ : L2.St} {H : Hp} {ta tb te : TE} {tr : TA} {P : V → Hp → Prop} {n m : Nat}
theorem em_nil : EvMA' 0 tNil σ H P := fun H1 e Q q => q [] H1 (Ex.refl H1) rfl fun x hx => by cases hx
theorem em_cons (hm : ∀ x H H', Ex H H' → P x H → P x H') (h : EvM te σ H P) (hr : EvMA' n tr σ H P) : EvMA' (n + 1) (tCons te tr) σ H P := fun H1 e Q q => h H1 e _ fun x H2 e2 px => hr H2 (e.trans e2) _ fun xs H3 e3 hl hp => q (x :: xs) H3 (e2.trans e3) (by rw [List.length_cons, hl]) fun y hy => by
  rcases List.mem_cons.mp hy with rfl | hy
  · exact hm _ _ _ e3 px
  · exact hp y hy
theorem em_lst (hm : ∀ x H H', Ex H H' → P x H → P x H') (hn : n ≤ 1000) (h : EvMA' n tr σ H P) : EvML n (tLst tr) σ H P := fun H1 e Q q => h H1 e _ fun xs H2 e2 hl hp => ⟨by rw [hl, sizeLine_eq]; omega, fun p hpn => q p xs _ (e2.trans (Ex.new hpn)) upd_same hl fun x hx => hm _ _ _ (Ex.new hpn) (hp x hx)⟩
theorem em_cat (hm : ∀ x H H', Ex H H' → P x H → P x H') (hn : n + m ≤ 1000) (h : EvML n ta σ H P) (hr : EvML m tb σ H P) : EvML (n + m) (tOp rCat ta tb) σ H P := fun H1 e Q q => h H1 e _ fun p xs H2 e2 g2 hl hp => hr H2 (e.trans e2) _ fun r ys H3 e3 g3 hl2 hp2 =>
  ⟨p, r, xs, ys, rfl, rfl, e3 _ _ g2, g3, by rw [hl, hl2, sizeLine_eq]; omega, fun z hz => q z (xs ++ ys) _ ((e2.trans e3).trans (Ex.new hz)) upd_same (by rw [List.length_append, hl, hl2]) fun x hx => by
    rcases List.mem_append.mp hx with hx | hx
    · exact hm _ _ _ (e3.trans (Ex.new hz)) (hp x hx)
    · exact hm _ _ _ (Ex.new hz) (hp2 x hx)⟩
theorem em_var {i : Nat} {p : Addr} {xs : List V} (hm : ∀ x H H', Ex H H' → P x H → P x H') (hs : σ[i]? = some (some (.ref p))) (hp : H p = some (.lst xs)) (hl : xs.length = n) (ha : ∀ x ∈ xs, P x H) : EvML n (tVar i) σ H P := fun H1 e Q q => ⟨.ref p, hs, q p xs H1 (Ex.refl H1) (e _ _ hp) hl fun x hx => hm _ _ _ e (ha x hx)⟩
end
/-- one thing asked: its answer is known -/
def Askd (x : V) (H : Hp) : Prop := ∃ (p l : Addr) (al h r sg : List Nat) (v : V) (d : PyData), x = .ref p ∧ H p = some (.lst [tx al, tx h, tx r, .ref l]) ∧ H l = some (.lst [tx sg, v]) ∧ refd al h r (SX.S sg) v ∧ al.length ≤ 1000 ∧ h.length ≤ 1000 ∧ r.length ≤ 1000 ∧ (∀ c ∈ sg, c < 1114112) ∧ (∀ (K : PySem.W.Frag) H1, Dp K H1 v d) ∧ PyData.canLay0 d = true ∧ PyData.depth d ≤ 0
theorem Askd.mono : ∀ (x : V) (H H' : Hp), Ex H H' → Askd x H → Askd x H' := fun x H H' e h => by
  obtain ⟨p, l, al, h, r, sg, v, d, rfl, h1, h2, h3⟩ := h
  exact ⟨p, l, al, h, r, sg, v, d, rfl, e _ _ h1, e _ _ h2, h3⟩
theorem em_ask {σ : L2.St} {H : Hp} {t0 t1 t2 tv : TE} {al h r sg : List Nat} {s : Str} {v : V} {d : PyData} (hs : s = SX.S sg) (h0 : Ev t0 σ H (tx al)) (h1 : Ev t1 σ H (tx h)) (h2 : Ev t2 σ H (tx r)) (hv : Ev tv σ H v) (hr : refd al h r s v) (z0 : al.length ≤ 1000) (z1 : h.length ≤ 1000) (z2 : r.length ≤ 1000) (zs : ∀ c ∈ sg, c < 1114112) (hd : ∀ (K : PySem.W.Frag) H1, Dp K H1 v d) (d1 : PyData.canLay0 d = true) (d2 : PyData.depth d ≤ 0) :
    EvM (tLst (tCons t0 (tCons t1 (tCons t2 (tCons (tLst (tCons (tC (.str s)) (tCons tv tNil))) tNil))))) σ H Askd := fun H1 e Q q => by
  subst hs
  refine h0 H1 e _ fun H2 e2 => h1 H2 (e.trans e2) _ fun H3 e3 => h2 H3 ((e.trans e2).trans e3) _ fun H4 e4 => ?_
  have e14 := (e2.trans e3).trans e4
  refine (el_lst (vs := [tx sg, v]) (ea_cons ev_c (ea_cons hv ea_nil)) (by show 2 ≤ 100000; decide)) H4 (e.trans e14) _ fun l H5 hl e5 g5 => ⟨by show 4 ≤ sizeLine; rw [sizeLine_eq]; omega, fun p hp => ?_⟩
  exact q _ _ ((e14.trans e5).trans (Ex.new hp)) ⟨p, l, al, h, r, sg, v, d, rfl, upd_same, Ex.new hp _ _ g5, hr, z0, z1, z2, zs, hd, d1, d2⟩
def nLetter : List Nat := [108, 101, 116, 116, 101, 114]
def nAlpha : List Nat := [97, 108, 112, 104, 97, 98, 101, 116]
def nRing : List Nat := [114, 105, 110, 103]
def nNone : List Nat := [110, 111, 110, 101]
theorem nLetter_is : ("letter" : Str) = SX.S nLetter := by decide +kernel
theorem nAlpha_is : ("alphabet" : Str) = SX.S nAlpha := by decide +kernel
theorem nRing_is : ("ring" : Str) = SX.S nRing := by decide +kernel
theorem nNone_is : ("none" : Str) = SX.S nNone := by decide +kernel
theorem nLetter_ok : ∀ c ∈ nLetter, c < 1114112 := by decide +kernel
theorem nAlpha_ok : ∀ c ∈ nAlpha, c < 1114112 := by decide +kernel
theorem nRing_ok : ∀ c ∈ nRing, c < 1114112 := by decide +kernel
theorem nNone_ok : ∀ c ∈ nNone, c < 1114112 := by decide +kernel
theorem lay_int (i : Int) : PyData.canLay0 (.int i) = true ∧ PyData.depth (.int i) ≤ 0 := ⟨by simp [PyData.canLay0], by simp [PyData.depth]⟩
section
variable {σ : L2.St} {H : Hp} {t0 t1 t2 tv : TE} {al h r : List Nat}
theorem ask_letter {k : Nat} (h0 : Ev t0 σ H (tx al)) (h1 : Ev t1 σ H (tx h)) (h2 : Ev t2 σ H (tx r)) (hv : Ev tv σ H (.int (k : Int))) (hA : Alf al) (hb : bad1 al h k ∨ ((∀ c ∈ h, c ∈ al) ∧ bad1 al r k)) (z1 : h.length ≤ 1000) (z2 : r.length ≤ 1000) :
    EvM (tLst (tCons t0 (tCons t1 (tCons t2 (tCons (tLst (tCons (tC (.str ("letter" : Str))) (tCons tv tNil))) tNil))))) σ H Askd :=
  em_ask nLetter_is h0 h1 h2 hv (hb.elim (fun b => .inr (.inl ⟨hA, k, b, rfl, rfl⟩)) fun b => .inr (.inr (.inl ⟨hA, b.1, k, b.2, rfl, rfl⟩))) (by have := hA.six; omega) z1 z2 nLetter_ok (fun _ _ => .int _) (lay_int _).1 (lay_int _).2
theorem ask_alpha (h0 : Ev t0 σ H (tx al)) (h1 : Ev t1 σ H (tx h)) (h2 : Ev t2 σ H (tx r)) (hv : Ev tv σ H (tx al)) (hA : ¬ Alf al) (hu : ∀ c ∈ al, c < 1114112) (z0 : al.length ≤ 1000) (z1 : h.length ≤ 1000) (z2 : r.length ≤ 1000) :
    EvM (tLst (tCons t0 (tCons t1 (tCons t2 (tCons (tLst (tCons (tC (.str ("alphabet" : Str))) (tCons tv tNil))) tNil))))) σ H Askd :=
  em_ask nAlpha_is h0 h1 h2 hv (.inl ⟨hA, rfl, rfl⟩) z0 z1 z2 nAlpha_ok (fun _ _ => .str _) (lay_tx hu).1 (lay_tx hu).2
theorem ask_ring (h0 : Ev t0 σ H (tx al)) (h1 : Ev t1 σ H (tx h)) (h2 : Ev t2 σ H (tx [])) (hv : Ev tv σ H (.int 0)) (hA : Alf al) (oh : ∀ c ∈ h, c ∈ al) (z1 : h.length ≤ 1000) :
    EvM (tLst (tCons t0 (tCons t1 (tCons t2 (tCons (tLst (tCons (tC (.str ("ring" : Str))) (tCons tv tNil))) tNil))))) σ H Askd :=
  em_ask nRing_is h0 h1 h2 hv (.inr (.inr (.inr (.inl ⟨hA, oh, rfl, rfl, rfl⟩)))) (by have := hA.six; omega) z1 (Nat.zero_le _) nRing_ok (fun _ _ => .int _) (lay_int _).1 (lay_int _).2
theorem ask_none (h0 : Ev t0 σ H (tx al)) (h1 : Ev t1 σ H (tx h)) (h2 : Ev t2 σ H (tx r)) (hv : Ev tv σ H (.int 0)) (hA : Alf al) (oh : ∀ c ∈ h, c ∈ al) (or' : ∀ c ∈ r, c ∈ al) (rp : 0 < r.length) (z1 : h.length ≤ 1000) (z2 : r.length ≤ 1000) :
    EvM (tLst (tCons t0 (tCons t1 (tCons t2 (tCons (tLst (tCons (tC (.str ("none" : Str))) (tCons tv tNil))) tNil))))) σ H Askd :=
  em_ask nNone_is h0 h1 h2 hv (.inr (.inr (.inr (.inr ⟨hA, oh, or', rp, rfl, rfl⟩)))) (by have := hA.six; omega) z1 z2 nNone_ok (fun _ _ => .int _) (lay_int _).1 (lay_int _).2
end
/-- a sign put into a text -/
theorem run_mid {σ : L2.St} {H : Hp} {t1 t3 : TE} {ta : TA} {E : XK} {al a b : List Nat} {z : Int} {Q : VK} (hA : Alf al) (h1 : Ev t1 σ H (tx a)) (h2 : EvA ta σ H [tx al, .int z]) (h3 : Ev t3 σ H (tx b)) (hz : a.length + b.length ≤ 1000) (k : ∀ c H1, c ∉ al → Ex H H1 → Q (tx (a ++ c :: b)) H1) :
    tOp (fun x y H Q => ∃ i j : Str, x = .str i ∧ y = .str j ∧ i.length + j.length ≤ sizeLine ∧ Q (.str (i ++ j)) H) (tOp (fun x y H Q => ∃ i j : Str, x = .str i ∧ y = .str j ∧ i.length + j.length ≤ sizeLine ∧ Q (.str (i ++ j)) H) t1 (tCall spStr [] E ta)) t3 σ H Q :=
  h1 H (Ex.refl H) _ fun H1 e1 => h2 H1 e1 _ fun H2 e2 => ⟨al, z, rfl, hA, fun c hc H3 e3 => ⟨_, _, rfl, rfl, by rw [SX.S_len, SX.S_len, sizeLine_eq]; show a.length + 1 ≤ _; omega, by
    rw [SX.S_cat]
    refine h3 H3 ((e1.trans e2).trans e3) _ fun H4 e4 => ⟨_, _, rfl, rfl, by rw [SX.S_len, SX.S_len, List.length_append, sizeLine_eq]; show a.length + 1 + _ ≤ _; omega, ?_⟩
    rw [SX.S_cat, List.append_assoc]
    exact k c H4 hc (((e1.trans e2).trans e3).trans e4)⟩⟩
def bads (al : List Nat) : List (List Nat) := [[], al ++ [al.getD (al.length - 1) 0], al ++ [65], al.reverse ++ al, [48, 49, 50, 51, 52, 53, 54], [32] ++ al, al.take (al.length - 1) ++ [126], al ++ [48]]
theorem bads_ok {al : List Nat} (hA : Alf al) : ∀ b ∈ bads al, ¬ Alf b ∧ b.length ≤ 20 ∧ ∀ c ∈ b, c < 1114112 := by
  have hp := hA.pos
  have h6 := hA.six
  have hl : al[al.length - 1]? = some (al.getD (al.length - 1) 0) := take_getD (by omega)
  have hlm := List.mem_of_getElem? hl
  have hlet := hA.let' _ hlm
  have uni : ∀ {c : Nat}, c ∈ al → c < 1114112 := fun h => hA.uni h
  intro b hb
  simp only [bads, List.mem_cons, List.not_mem_nil, or_false] at hb
  rcases hb with rfl | rfl | rfl | rfl | rfl | rfl | rfl | rfl
  · exact ⟨bad_nil, Nat.zero_le _, fun c hc => by cases hc⟩
  · refine ⟨bad_pair hlm (List.mem_singleton.mpr rfl) (Nat.le_refl _), by rw [List.length_append]; show _ + 1 ≤ _; omega, fun c hc => ?_⟩
    rcases List.mem_append.mp hc with hc | hc
    · exact uni hc
    · rw [List.mem_singleton.mp hc]
      exact uni hlm
  · refine ⟨bad_sign (c := 65) (List.mem_append_right _ (List.mem_singleton.mpr rfl)) (by decide), by rw [List.length_append]; show _ + 1 ≤ _; omega, fun c hc => ?_⟩
    rcases List.mem_append.mp hc with hc | hc
    · exact uni hc
    · rw [List.mem_singleton.mp hc]
      decide
  · refine ⟨bad_pair (List.mem_reverse.mpr hlm) hlm (Nat.le_refl _), by rw [List.length_append, List.length_reverse]; omega, fun c hc => ?_⟩
    rcases List.mem_append.mp hc with hc | hc
    · exact uni (List.mem_reverse.mp hc)
    · exact uni hc
  · exact ⟨bad_long (by decide), by decide, by decide⟩
  · refine ⟨bad_sign (c := 32) (List.mem_append_left _ (List.mem_singleton.mpr rfl)) (by decide), by rw [List.length_append]; show 1 + _ ≤ _; omega, fun c hc => ?_⟩
    rcases List.mem_append.mp hc with hc | hc
    · rw [List.mem_singleton.mp hc]
      decide
    · exact uni hc
  · refine ⟨bad_sign (c := 126) (List.mem_append_right _ (List.mem_singleton.mpr rfl)) (by decide), by rw [List.length_append, List.length_take]; show _ + 1 ≤ _; omega, fun c hc => ?_⟩
    rcases List.mem_append.mp hc with hc | hc
    · exact uni (List.mem_of_mem_take hc)
    · rw [List.mem_singleton.mp hc]
      decide
  · refine ⟨bad_pair hlm (List.mem_singleton.mpr rfl) (by omega), by rw [List.length_append]; show _ + 1 ≤ _; omega, fun c hc => ?_⟩
    rcases List.mem_append.mp hc with hc | hc
    · exact uni hc
    · rw [List.mem_singleton.mp hc]
      decide
end Ver
namespace Ver
open PySem PySem.Spec PyProof.Rows L2 Evl
section
variable {P : Program} {w : World} {K : PySem.W.Frag} {mg : Str → Option Value} {base : Heap} {C_Round : Addr} {C_PressError : Addr} {C_BadAlphabet : Addr} {C_BadLetter : Addr} {C_BadRow : Addr} {C_BadTail : Addr} {C_BadRank : Addr} {C_NotBits : Addr} {C_BadIndex : Addr} {C_BadStanding : Addr} {C_BadRule : Addr} {C_AlphabetsDiffer : Addr} {C_DoesNotComeBack : Addr} {C_TooLarge : Addr} {C_NotWritten : Addr} {C_NoSuchText : Addr} {C_BadName : Addr} {C_NameTaken : Addr} {C_NoName : Addr} {C_EmptyRing : Addr} {C_NotInLot : Addr} {C_BadBuild : Addr} {C_BadGrowth : Addr} {C_EmptyText : Addr} {C_NothingToUndo : Addr} {C_NothingToRedo : Addr}
def spRfs (K : PySem.W.Frag) : Sp := fun vs H Q _ => ∃ (al : List Nat) (a b : Addr) (h r : List Nat) (z : List Int), vs = [tx al, .ref a, .ref b] ∧ Alf al ∧ SqL K H a [tx h, tx r] ∧ SqL K H b (z.map V.int) ∧ z.length = 5 ∧ (0 ≤ at0 z 4 ∧ at0 z 4 < 8) ∧ Onl al h ∧ Onl al r ∧ h.length ≤ 60 ∧ 1 ≤ r.length ∧ r.length ≤ 60 ∧ RetV (.bl true) H Q
theorem has_rfs (F : At K mg "_law_refusals" s__law_refusals) (T : Top K mg C_Round) (GO_EmptyRing : ErrO K mg "EmptyRing" C_EmptyRing) (h1 : Has P w K mg base "_law_stranger" s__law_stranger ["abc", "turn"] 1 spStr) (h2 : Has P w K mg base "_law_alone" s__law_alone ["error"] 1 (spAlO C_EmptyRing)) (h3 : Has P w K mg base "_law_refused" s__law_refused ["abc", "front", "circle"] 6 spRef) :
    Has P w K mg base "_law_refusals" s__law_refusals ["abc", "made", "row"] 7 (spRfs K) := by
  obtain ⟨f, fd, F, m⟩ := F.ex
  obtain ⟨f1, fd1, _, G__law_stranger, b__law_stranger, m__law_stranger, k__law_stranger⟩ := h1
  obtain ⟨f2, fd2, _, G__law_alone, b__law_alone, m__law_alone, k__law_alone⟩ := h2
  obtain ⟨f3, fd3, _, G__law_refused, b__law_refused, m__law_refused, k__law_refused⟩ := h3
  refine ⟨f, fd, F, F.ok S__law_refusals (fun vs H Q E h => ?_) (fun cdv A outer s H vs Q E hr h => ?_), F.binds fun _ _ _ _ _ _ us hl => match us, hl with | [_, _, _], _ => rfl, m, F.kp⟩
  · obtain ⟨al, a, b, h, r, z, rfl, _⟩ := h
    rfl
  obtain ⟨al, a, b, h0, r0, z, rfl, hA, hm, hz, zl, z4, oh0, or0, lh0, lr1, lr2, q⟩ := h
  refine ⟨_, (pss_cons
    (ps_set (i := 3) S__law_refusals.nd rfl (Or.inl rfl) (pe_slice sl_str (pe_ix (r := rIxL K) ix_list (pv 1) pe_int (fun _ _ => rfl)) po_none (po_some pe_int)))
    (pss_cons
    (ps_set (i := 4) S__law_refusals.nd rfl (Or.inl rfl) (pe_slice sl_str (pe_ix (r := rIxL K) ix_list (pv 1) pe_int (fun _ _ => rfl)) po_none (po_some pe_int)))
    (pss_cons
    (ps_set (i := 5) S__law_refusals.nd rfl (Or.inl rfl) (pe_op op_mod (pe_callTy call_int1 rfl T.z_int (by decide +kernel) (pa_cons (pe_ix (r := rIxL K) ix_list (pv 2) pe_int (fun _ _ => rfl)) pa_nil)) (pe_op op_add (pe_callB call_len_str rfl T.z_len PySem.boot_len (pa_cons (pv 3) pa_nil)) pe_int)))
    (pss_cons
    (ps_set (i := 6) S__law_refusals.nd rfl (Or.inl rfl) (pe_op op_mod (pe_callTy call_int1 rfl T.z_int (by decide +kernel) (pa_cons (pe_ix (r := rIxL K) ix_list (pv 2) pe_int (fun _ _ => rfl)) pa_nil)) (pe_op op_add (pe_callB call_len_str rfl T.z_len PySem.boot_len (pa_cons (pv 4) pa_nil)) pe_int)))
    (pss_cons
    (ps_set (i := 7) S__law_refusals.nd rfl (Or.inl rfl) (pe_op op_add_str (pe_op op_add_str (pe_slice sl_str (pv 3) po_none (po_some (pv 5))) (pe_call G__law_stranger (hr.mono (by decide)) rfl m__law_stranger k__law_stranger b__law_stranger .nil pass0 (pa_cons (pv 0) (pa_cons (pe_ix (r := rIxL K) ix_list (pv 2) pe_int (fun _ _ => rfl)) pa_nil)))) (pe_slice sl_str (pv 3) (po_some (pv 5)) po_none)))
    (pss_cons
    (ps_set (i := 8) S__law_refusals.nd rfl (Or.inl rfl) (pe_op op_add_str (pe_op op_add_str (pe_slice sl_str (pv 4) po_none (po_some (pv 6))) (pe_call G__law_stranger (hr.mono (by decide)) rfl m__law_stranger k__law_stranger b__law_stranger .nil pass0 (pa_cons (pv 0) (pa_cons (pe_ix (r := rIxL K) ix_list (pv 2) pe_int (fun _ _ => rfl)) pa_nil)))) (pe_slice sl_str (pv 4) (po_some (pv 6)) po_none)))
    (pss_cons
    (ps_set (i := 9) S__law_refusals.nd rfl (Or.inl rfl) (pe_ix (r := rIxL K) ix_list (pe_lst (pa_cons pe_str (pa_cons (pe_op op_add_str (pv 0) (pe_ix ix_str (pv 0) (pe_un un_neg pe_int) (fun _ _ => rfl))) (pa_cons (pe_op op_add_str (pv 0) pe_str) (pa_cons (pe_op op_add_str (pe_revE (pv 0)) (pv 0)) (pa_cons pe_str (pa_cons (pe_op op_add_str pe_str (pv 0)) (pa_cons (pe_op op_add_str (pe_slice sl_str (pv 0) po_none (po_some (pe_un un_neg pe_int))) pe_str) (pa_cons (pe_op op_add_str (pv 0) pe_str) pa_nil))))))))) (pe_ix (r := rIxL K) ix_list (pv 2) pe_int (fun _ _ => rfl)) (fun _ _ => rfl)))
    (pss_cons
    (ps_set (i := 10) S__law_refusals.nd rfl (Or.inl rfl) (pe_lst (pa_cons (pe_lst (pa_cons (pv 0) (pa_cons (pv 7) (pa_cons (pv 8) (pa_cons (pe_lst (pa_cons pe_str (pa_cons (pv 5) pa_nil))) pa_nil))))) (pa_cons (pe_lst (pa_cons (pv 0) (pa_cons (pv 3) (pa_cons (pv 8) (pa_cons (pe_lst (pa_cons pe_str (pa_cons (pv 6) pa_nil))) pa_nil))))) (pa_cons (pe_lst (pa_cons (pv 0) (pa_cons (pv 7) (pa_cons pe_str (pa_cons (pe_lst (pa_cons pe_str (pa_cons (pv 5) pa_nil))) pa_nil))))) pa_nil)))))
    (pss_cons
    (ps_set (i := 10) S__law_refusals.nd rfl (Or.inl rfl) (pe_op op_cat (pv 10) (pe_lst (pa_cons (pe_lst (pa_cons (pv 0) (pa_cons (pv 3) (pa_cons pe_str (pa_cons (pe_lst (pa_cons pe_str (pa_cons pe_int pa_nil))) pa_nil))))) (pa_cons (pe_lst (pa_cons (pv 0) (pa_cons pe_str (pa_cons pe_str (pa_cons (pe_lst (pa_cons pe_str (pa_cons pe_int pa_nil))) pa_nil))))) (pa_cons (pe_lst (pa_cons (pv 9) (pa_cons (pv 7) (pa_cons pe_str (pa_cons (pe_lst (pa_cons pe_str (pa_cons (pv 9) pa_nil))) pa_nil))))) pa_nil))))))
    (pss_cons
    (ps_set (i := 10) S__law_refusals.nd rfl (Or.inl rfl) (pe_op op_cat (pv 10) (pe_lst (pa_cons (pe_lst (pa_cons (pv 9) (pa_cons (pv 3) (pa_cons (pv 4) (pa_cons (pe_lst (pa_cons pe_str (pa_cons (pv 9) pa_nil))) pa_nil))))) (pa_cons (pe_lst (pa_cons (pv 0) (pa_cons (pv 7) (pa_cons (pv 4) (pa_cons (pe_lst (pa_cons pe_str (pa_cons (pv 5) pa_nil))) pa_nil))))) (pa_cons (pe_lst (pa_cons (pv 0) (pa_cons pe_str (pa_cons (pv 8) (pa_cons (pe_lst (pa_cons pe_str (pa_cons (pv 6) pa_nil))) pa_nil))))) pa_nil))))))
    (pss_cons
    (ps_set (i := 10) S__law_refusals.nd rfl (Or.inl rfl) (pe_op op_cat (pv 10) (pe_lst (pa_cons (pe_lst (pa_cons (pv 0) (pa_cons (pv 3) (pa_cons (pv 4) (pa_cons (pe_lst (pa_cons pe_str (pa_cons pe_int pa_nil))) pa_nil))))) (pa_cons (pe_lst (pa_cons (pv 0) (pa_cons pe_str (pa_cons (pv 4) (pa_cons (pe_lst (pa_cons pe_str (pa_cons pe_int pa_nil))) pa_nil))))) pa_nil)))))
    (pss_cons
    (ps_if (pt_not (pt_val (pe_call G__law_alone (hr.mono (by decide)) rfl m__law_alone k__law_alone b__law_alone .nil pass0 (pa_cons (pe_exc0 PySem.F.excBase_ValueError GO_EmptyRing.q rfl GO_EmptyRing.g GO_EmptyRing.kC) pa_nil)))) (pss_one
    (ps_ret pe_bl)) pss_nil)
    (pss_cons
    (ps_for PassesOwn.never rfl (pi_list (pv 10)) (pg_name (i := 11) S__law_refusals.nd rfl (Or.inl rfl)) (pss_one
    (ps_if (pt_cmpR (op_neD hr.units) (pe_call G__law_refused (hr.mono (by decide)) rfl m__law_refused k__law_refused b__law_refused .nil pass0 (pa_cons (pe_ix (r := rIxL K) ix_list (pv 11) pe_int (fun _ _ => rfl)) (pa_cons (pe_ix (r := rIxL K) ix_list (pv 11) pe_int (fun _ _ => rfl)) (pa_cons (pe_ix (r := rIxL K) ix_list (pv 11) pe_int (fun _ _ => rfl)) pa_nil)))) (pe_ix (r := rIxL K) ix_list (pv 11) pe_int (fun _ _ => rfl)) (nomark _)) (pss_one
    (ps_ret pe_bl)) pss_nil)))
    (pss_one
    (ps_ret pe_bl))))))))))))))), ?_⟩
  have h6 := hA.six
  have hp := hA.pos
  refine q_asg (v := tx (h0.take 59)) (ev_is (ev_slS (l := h0) (by omega) (ev_op (ev_var rfl) ev_c (rv_ixL hm rfl)) eo_none (eo_some (i := ((59 : Nat) : Int)) ev_c)) (by rw [cutL_to])) fun H1 e1 => ?_
  refine q_asg (v := tx (r0.take 59)) (ev_is (ev_slS (l := r0) (by omega) (ev_op (ev_var rfl) ev_c (rv_ixL (ex_l e1 hm) rfl)) eo_none (eo_some (i := ((59 : Nat) : Int)) ev_c)) (by rw [cutL_to])) fun H2 e2 => ?_
  have e12 := e1.trans e2
  have oh : Onl al (h0.take 59) := oh0.take 59
  have or' : Onl al (r0.take 59) := or0.take 59
  have lh : (h0.take 59).length ≤ 59 := by rw [List.length_take]; omega
  have lr : (r0.take 59).length ≤ 59 := by rw [List.length_take]; omega
  have rp : 0 < (r0.take 59).length := by rw [List.length_take]; omega
  generalize h0.take 59 = h at oh lh ⊢
  generalize r0.take 59 = r at or' lr rp ⊢
  obtain ⟨i, hi, ei⟩ := int_mod (x := at0 z 0) (n := h.length + 1) (by omega)
  refine q_asg (v := .int (i : Int)) (ev_is (ev_mod (j := ((h.length + 1 : Nat) : Int)) (by omega) (ev_int (ev_atI (i := 0) (ex_l e12 hz) (by omega) rfl (ev_var rfl) ev_c)) (ev_is (ev_add (ev_lenS (l := h) (by omega) (ev_var rfl)) ev_c) (by rw [Int.natCast_add]; rfl))) (by rw [ei])) fun H3 e3 => ?_
  have e13 := e12.trans e3
  obtain ⟨j, hj, ej⟩ := int_mod (x := at0 z 1) (n := r.length + 1) (by omega)
  refine q_asg (v := .int (j : Int)) (ev_is (ev_mod (j := ((r.length + 1 : Nat) : Int)) (by omega) (ev_int (ev_atI (i := 1) (ex_l e13 hz) (by omega) rfl (ev_var rfl) ev_c)) (ev_is (ev_add (ev_lenS (l := r) (by omega) (ev_var rfl)) ev_c) (by rw [Int.natCast_add]; rfl))) (by rw [ej])) fun H4 e4 => ?_
  have e14 := e13.trans e4
  refine q_asgR (run_mid (al := al) (a := h.take i) (b := h.drop i) (z := at0 z 2) hA (ev_is (ev_slS (l := h) (by omega) (ev_var rfl) eo_none (eo_some (i := (i : Int)) (ev_var rfl))) (by rw [cutL_to])) (ea_cons (ev_var rfl) (ea_cons (ev_atI (i := 2) (ex_l e14 hz) (by omega) rfl (ev_var rfl) ev_c) ea_nil)) (ev_is (ev_slS (l := h) (by omega) (ev_var rfl) (eo_some (i := (i : Int)) (ev_var rfl)) eo_none) (by rw [cutL_from])) (by rw [List.length_take, List.length_drop]; omega) fun c1 H5 hc1 e5 => ?_)
  have e15 := e14.trans e5
  refine q_asgR (run_mid (al := al) (a := r.take j) (b := r.drop j) (z := at0 z 3) hA (ev_is (ev_slS (l := r) (by omega) (ev_var rfl) eo_none (eo_some (i := (j : Int)) (ev_var rfl))) (by rw [cutL_to])) (ea_cons (ev_var rfl) (ea_cons (ev_atI (i := 3) (ex_l e15 hz) (by omega) rfl (ev_var rfl) ev_c) ea_nil)) (ev_is (ev_slS (l := r) (by omega) (ev_var rfl) (eo_some (i := (j : Int)) (ev_var rfl)) eo_none) (by rw [cutL_from])) (by rw [List.length_take, List.length_drop]; omega) fun c2 H6 hc2 e6 => ?_)
  have e16 := e15.trans e6
  have bH : bad1 al (h.take i ++ c1 :: h.drop i) i := by
    have b := bad1_mk (b := h.drop i) (oh.take i) hc1
    rw [List.length_take, Nat.min_eq_left (by omega)] at b
    exact b
  have bR : bad1 al (r.take j ++ c2 :: r.drop j) j := by
    have b := bad1_mk (b := r.drop j) (or'.take j) hc2
    rw [List.length_take, Nat.min_eq_left (by omega)] at b
    exact b
  have lbh : (h.take i ++ c1 :: h.drop i).length ≤ 1000 := by
    rw [List.length_append, List.length_cons, List.length_take, List.length_drop]
    omega
  have lbr : (r.take j ++ c2 :: r.drop j).length ≤ 1000 := by
    rw [List.length_append, List.length_cons, List.length_take, List.length_drop]
    omega
  generalize h.take i ++ c1 :: h.drop i = bh at bH lbh ⊢
  generalize r.take j ++ c2 :: r.drop j = br at bR lbr ⊢
  obtain ⟨k, hk, ek⟩ : ∃ k : Nat, k < 8 ∧ at0 z 4 = (k : Int) := ⟨(at0 z 4).toNat, by omega, by omega⟩
  have hbl : (bads al).length = 8 := rfl
  have hbm : (bads al).getD k [] ∈ bads al := getD_mem (by rw [hbl]; exact hk)
  obtain ⟨nb, lb, ub⟩ := bads_ok hA _ hbm
  refine q_asg (v := tx ((bads al).getD k [])) ?_ fun H7 e7 => ?_
  · have s7 : ("0123456" : Str) = SX.S [48, 49, 50, 51, 52, 53, 54] := by decide +kernel
    have sA : ("A" : Str) = SX.S [65] := by decide +kernel
    have s_ : (" " : Str) = SX.S [32] := by decide +kernel
    have sT : ("~" : Str) = SX.S [126] := by decide +kernel
    have s0 : ("0" : Str) = SX.S [48] := by decide +kernel
    refine ev_opL1 (xs := (bads al).map tx) (y := .int (k : Int)) (el_lst (vs := (bads al).map tx) (ea_cons (ev_is ev_c (by rw [nil_is])) (ea_cons (ev_catS (a := al) (b := [al.getD (al.length - 1) 0]) (by show _ + 1 ≤ _; omega) (ev_var rfl) (ev_is (ev_ixB (l := al) (k := 0) (by omega) (by omega) (ev_var rfl) (ev_is (ev_un ev_c ru_neg) rfl)) rfl))
      (ea_cons (ev_catS (a := al) (b := [65]) (by show _ + 1 ≤ _; omega) (ev_var rfl) (ev_is ev_c (by rw [sA]))) (ea_cons (ev_catS (a := al.reverse) (b := al) (by rw [List.length_reverse]; omega) (ev_revE (ev_var rfl) (by omega)) (ev_var rfl)) (ea_cons (ev_is ev_c (by rw [s7])) (ea_cons (ev_catS (a := [32]) (b := al) (by show 1 + _ ≤ _; omega) (ev_is ev_c (by rw [s_])) (ev_var rfl))
      (ea_cons (ev_catS (a := al.take (al.length - 1)) (b := [126]) (by rw [List.length_take]; show _ + 1 ≤ _; omega) (ev_is (ev_slS (by omega) (ev_var rfl) eo_none (eo_some (i := -1) (ev_un ev_c ru_neg))) (by rw [cutL_last])) (ev_is ev_c (by rw [sT]))) (ea_cons (ev_catS (a := al) (b := [48]) (by show _ + 1 ≤ _; omega) (ev_var rfl) (ev_is ev_c (by rw [s0]))) ea_nil)))))))) (by show 8 ≤ 100000; decide))
      (fun H1 e1 => ev_is (ev_atI (ex_l (e16.trans e1) hz) (i := 4) (by omega) rfl (ev_var rfl) ev_c) (by rw [ek])) (fun p H3 h3 e3 => rv_ixL (sq_of h3) ?_)
    have : ((bads al).map tx)[k]? = some (tx ((bads al).getD k [])) := by
      rw [List.getElem?_map, List.getElem?_eq_getElem (by rw [hbl]; exact hk), List.getD_eq_getElem?_getD, List.getElem?_eq_getElem (by rw [hbl]; exact hk)]
      rfl
    exact atI_nat this
  generalize (bads al).getD k [] = bd at nb lb ub ⊢
  have e17 := e16.trans e7
  have M := Askd.mono
  refine q_asgR (em_lst (n := 3) M (by decide) (em_cons M (ask_letter (ev_var rfl) (ev_var rfl) (ev_var rfl) (ev_var rfl) hA (.inl bH) lbh lbr) (em_cons M (ask_letter (ev_var rfl) (ev_var rfl) (ev_var rfl) (ev_var rfl) hA (.inr ⟨oh, bR⟩) (by omega) lbr) (em_cons M (ask_letter (ev_var rfl) (ev_var rfl) (ev_is ev_c (by rw [nil_is])) (ev_var rfl) hA (.inl bH) lbh (Nat.zero_le _)) em_nil))) H7 (Ex.refl H7) _ fun p1 x1 H8 e8 g8 l8 a8 => ?_)
  refine q_asgR (em_cat (n := 3) (m := 3) M (by decide) (em_var M rfl g8 l8 a8) (em_lst M (by decide) (em_cons M (ask_ring (ev_var rfl) (ev_var rfl) (ev_is ev_c (by rw [nil_is])) ev_c hA oh (by omega)) (em_cons M (ask_ring (h := []) (ev_var rfl) (ev_is ev_c (by rw [nil_is])) (ev_is ev_c (by rw [nil_is])) ev_c hA (fun c hc => by cases hc) (Nat.zero_le _)) (em_cons M (ask_alpha (ev_var rfl) (ev_var rfl) (ev_is ev_c (by rw [nil_is])) (ev_var rfl) nb ub (by omega) lbh (Nat.zero_le _)) em_nil)))) H8 (Ex.refl H8) _ fun p2 x2 H9 e9 g9 l9 a9 => ?_)
  refine q_asgR (em_cat (n := 6) (m := 3) M (by decide) (em_var M rfl g9 l9 a9) (em_lst M (by decide) (em_cons M (ask_alpha (ev_var rfl) (ev_var rfl) (ev_var rfl) (ev_var rfl) nb ub (by omega) (by omega) (by omega)) (em_cons M (ask_letter (ev_var rfl) (ev_var rfl) (ev_var rfl) (ev_var rfl) hA (.inl bH) lbh (by omega)) (em_cons M (ask_letter (h := []) (ev_var rfl) (ev_is ev_c (by rw [nil_is])) (ev_var rfl) (ev_var rfl) hA (.inr ⟨fun c hc => (by cases hc), bR⟩) (Nat.zero_le _) lbr) em_nil)))) H9 (Ex.refl H9) _ fun p3 x3 H10 e10 g10 l10 a10 => ?_)
  refine q_asgR (em_cat (n := 9) (m := 2) M (by decide) (em_var M rfl g10 l10 a10) (em_lst M (by decide) (em_cons M (ask_none (ev_var rfl) (ev_var rfl) (ev_var rfl) ev_c hA oh or' rp (by omega) (by omega)) (em_cons M (ask_none (h := []) (ev_var rfl) (ev_is ev_c (by rw [nil_is])) (ev_var rfl) ev_c hA (fun c hc => by cases hc) or' rp (Nat.zero_le _) (by omega)) em_nil))) H10 (Ex.refl H10) _ fun p4 x4 H11 e11 g11 l11 a11 => ?_)
  have e27 := (((e17.trans e8).trans e9).trans e10).trans e11
  refine q_skip (et_is (et_not (a := true) (et_test (b := true) (fun H12 e12' Q' q' a' ha' => ⟨a', rfl, upd_same, fun H13 e13' => q' H13 ((Ex.new ha').trans e13')⟩))) rfl) fun H12 e12' => ?_
  have g12 := e12' _ _ g11
  refine q_forLn (ev_var rfl) (sq_of g12) (fun _ σ' H' => (∃ u11, σ' = [some (tx al), some (.ref a), some (.ref b), some (tx h), some (tx r), some (.int (i : Int)), some (.int (j : Int)), some (tx bh), some (tx br), some (tx bd), some (.ref p4), u11]) ∧ Ex H12 H') (fun H13 e13' => ⟨⟨_, rfl⟩, e13'⟩) (fun i σ' H' _ z2 => sq_of (z2.2 _ _ g12)) (fun i' x σ' H' hx z2 => ?_) (fun σ' H' z2 => ?_)
  · obtain ⟨⟨u11, rfl⟩, e13'⟩ := z2
    obtain ⟨p, l, al', h', r', sg, v, d, rfl, w1, w2, rf, z1, z2', z3, us, hd, d1, d2⟩ := (Askd.mono _ _ _ (e12'.trans e13') (a11 x (List.mem_of_getElem? hx)))
    have one : ∀ {σ : L2.St} {H2 : Hp} {kk : Int} {y : V}, Ex H' H2 → σ[11]? = some (some (.ref p)) → atI [tx al', tx h', tx r', .ref l] kk = some y → Ev (tOp (rIxL K) (tVar 11) (tC (.int kk))) σ H2 y := fun e hs hy => ev_op (ev_var hs) ev_c (rv_ixL (sq_of (e _ _ w1)) hy)
    refine s_skip (et_test (ev_opL1 (xs := [tx sg, v]) (el_call (ea_cons (one (Ex.refl H') rfl rfl) (ea_cons (one (Ex.refl H') rfl rfl) (ea_cons (one (Ex.refl H') rfl rfl) ea_nil))) (fun H2 e2 Q' q' E' => ⟨al', h', r', SX.S sg, v, rfl, z1, z2', z3, rf, fun l' H3 hl' e3' g3' => q' l' H3 hl' e3' g3'⟩)) (fun H2 e2 => one e2 rfl rfl) (fun p' H2 hp' e2 => rv_neSame (d := .list [.str (SX.S sg), d]) (shaped_lst (n := 0) (fun y hy => ?_) (by decide)) (fun H3 e3 => .lst (sq_of (e3 _ _ hp')) (.cons (.str _) (.cons (hd K H3) .nil))) (fun H3 e3 => .lst (sq_of (e3 _ _ (e2 _ _ w2))) (.cons (.str _) (.cons (hd K H3) .nil)))))) fun H2 e2 => ⟨⟨_, rfl⟩, e13'.trans e2⟩
    rcases List.mem_cons.mp hy with rfl | hy
    · exact lay_tx us
    · rw [List.mem_singleton.mp hy]
      exact ⟨d1, d2⟩
  · obtain ⟨⟨u11, rfl⟩, e13'⟩ := z2
    exact s_ret ev_c fun H14 e14' => q H14 (((e27.trans e12').trans e13').trans e14')
end
end Ver
namespace Ver
open PySem PySem.Spec PyProof.Rows L2 Evl
section
variable {P : Program} {w : World} {K : PySem.W.Frag} {mg : Str → Option Value} {base : Heap} {C_Round : Addr}
theorem ev_c4LE {σ : L2.St} {H : Hp} {t1 t2 t3 tl : TE} {sp : Sp} {E : XK} {x1 x2 x3 z : V} {xs : List V} (h1 : Ev t1 σ H x1) (h2 : Ev t2 σ H x2) (h3 : Ev t3 σ H x3) (hl : EvL tl σ H xs) (hs : ∀ p H1, Ex H H1 → H1 p = some (.lst xs) → SpV sp ([x1, x2, x3, .ref p] ++ []) H1 z) : Ev (tCall sp [] E (tCons t1 (tCons t2 (tCons t3 (tCons tl tNil))))) σ H z := fun H0 e Q q =>
  h1 H0 e _ fun H1 e1 => h2 H1 (e.trans e1) _ fun H2 e2 => h3 H2 ((e.trans e1).trans e2) _ fun H3 e3 => hl H3 (((e.trans e1).trans e2).trans e3) _ fun p H4 _ e4 g4 => hs p H4 ((((e.trans e1).trans e2).trans e3).trans e4) g4 H4 (Ex.refl H4) Q (fun H5 e5 => q H5 ((((e1.trans e2).trans e3).trans e4).trans e5)) E
def spLaw (K : PySem.W.Frag) : Sp := fun vs H Q _ => ∃ (a : Addr) (ns : List Int), vs = [.ref a] ∧ SqL K H a (ns.map V.int) ∧ ns.length ≤ 63 ∧ ∀ H', Q (.bl true) H'
theorem q_norm {t : TS} {D : Ends} {σ σ' : L2.St} {H : Hp} (e : σ' = σ) (h : t D σ' H) : t D σ H := e ▸ h
theorem ok_law {f : Addr} {fd : FuncData} (F : Fun K "law" "law" s_law f fd) (T : Top K mg C_Round) (h1 : Has P w K mg base "_law_digits" s__law_digits ["cell", "sizes"] 1 (spDigits K)) (h2 : Has P w K mg base "_law_cell" s__law_cell ["script", "k"] 1 (spCell K)) (h3 : Has P w K mg base "_law_alphabet" s__law_alphabet ["row", "upto"] 1 (spSigns K))
    (h4 : Has P w K mg base "_law_writing" s__law_writing ["abc", "row", "one", "two"] 2 (spWri K)) (h5 : Has P w K mg base "_law_form" s__law_form ["front", "circle"] 1 spForm) (h6 : Has P w K mg base "_law_other" s__law_other ["form", "row"] 1 (spOth K)) (h7 : Has P w K mg base "_law_near" s__law_near ["abc", "made", "row"] 1 (spNear K)) (h8 : Has P w K mg base "_law_wider" s__law_wider ["abc", "turn"] 1 spWid)
    (h9 : HasIK P w K mg base C_Round 3 (spRnd C_Round)) (h10 : Has P w K mg base "_law_has_form" s__law_has_form ["actual", "abc", "form"] 2 (spHf K C_Round)) (h11 : Has P w K mg base "_law_beginning" s__law_beginning ["front", "circle", "span"] 1 spLb) (h12 : Has P w K mg base "_law_told" s__law_told ["actual", "due"] 1 spTold) (h13 : HasM P w K mg base C_Round "__eq__" ["self", "other"] 1 (spREq C_Round))
    (h14 : Has P w K mg base "_law_giant" s__law_giant ["row"] 1 (spGi K)) (h15 : Has P w K mg base "_law_reads" s__law_reads ["actual", "made", "indexes", "lengths"] 2 (spReads K C_Round)) (h16 : HasMK P w K mg base C_Round "beginning" "length" 1 (spBeg C_Round)) (h17 : HasMK P w K mg base C_Round "letter_of" "index" 1 (spLet C_Round))
    (h18 : Has P w K mg base "_law_refusals" s__law_refusals ["abc", "made", "row"] 7 (spRfs K)) (h19 : Has P w K mg base "_law_long_right" s__law_long_right ["abc", "first", "form", "row"] 5 (spLg K C_Round)) : FnG P w K mg base CX0 8 f fd ["script"] (spLaw K) := by
  obtain ⟨f1, fd1, _, G__law_digits, b__law_digits, m__law_digits, k__law_digits⟩ := h1
  obtain ⟨f2, fd2, _, G__law_cell, b__law_cell, m__law_cell, k__law_cell⟩ := h2
  obtain ⟨f3, fd3, _, G__law_alphabet, b__law_alphabet, m__law_alphabet, k__law_alphabet⟩ := h3
  obtain ⟨f4, fd4, _, G__law_writing, b__law_writing, m__law_writing, k__law_writing⟩ := h4
  obtain ⟨f5, fd5, _, G__law_form, b__law_form, m__law_form, k__law_form⟩ := h5
  obtain ⟨f6, fd6, _, G__law_other, b__law_other, m__law_other, k__law_other⟩ := h6
  obtain ⟨f7, fd7, _, G__law_near, b__law_near, m__law_near, k__law_near⟩ := h7
  obtain ⟨f8, fd8, _, G__law_wider, b__law_wider, m__law_wider, k__law_wider⟩ := h8
  obtain ⟨f9, fd9, G_Round___init__, b_Round___init__, mk_Round, kb_Round___init__⟩ := h9
  obtain ⟨f10, fd10, _, G__law_has_form, b__law_has_form, m__law_has_form, k__law_has_form⟩ := h10
  obtain ⟨f11, fd11, _, G__law_beginning, b__law_beginning, m__law_beginning, k__law_beginning⟩ := h11
  obtain ⟨f12, fd12, _, G__law_told, b__law_told, m__law_told, k__law_told⟩ := h12
  obtain ⟨f13, fd13, G_Round___eq__, b_Round___eq__, M_Round___eq__⟩ := h13
  obtain ⟨f14, fd14, _, G__law_giant, b__law_giant, m__law_giant, k__law_giant⟩ := h14
  obtain ⟨f15, fd15, _, G__law_reads, b__law_reads, m__law_reads, k__law_reads⟩ := h15
  obtain ⟨f16, fd16, G_Round_beginning, b_Round_beginning, M_Round_beginning, kb_Round_beginning⟩ := h16
  obtain ⟨f17, fd17, G_Round_letter_of, b_Round_letter_of, M_Round_letter_of, kb_Round_letter_of⟩ := h17
  obtain ⟨f18, fd18, _, G__law_refusals, b__law_refusals, m__law_refusals, k__law_refusals⟩ := h18
  obtain ⟨f19, fd19, _, G__law_long_right, b__law_long_right, m__law_long_right, k__law_long_right⟩ := h19
  refine okG F S_law (fun vs H Q E h => ?_) (fun cdv A outer s H vs Q E g hr h => ?_)
  · obtain ⟨a, ns, rfl, _⟩ := h
    rfl
  obtain ⟨a, ns, rfl, hS, h63, q⟩ := h
  refine ⟨_, (pss_cons
    (ps_set (i := 1) S_law.nd rfl (Or.inl rfl) (pe_call G__law_alphabet (hr.mono (by decide)) rfl m__law_alphabet k__law_alphabet b__law_alphabet .nil pass0 (pa_cons (pe_call G__law_digits (hr.mono (by decide)) rfl m__law_digits k__law_digits b__law_digits .nil pass0 (pa_cons (pe_call G__law_cell (hr.mono (by decide)) rfl m__law_cell k__law_cell b__law_cell .nil pass0 (pa_cons (pv 0) (pa_cons pe_int pa_nil))) (pa_cons (pe_lst (pa_cons pe_int (pa_cons pe_int (pa_cons pe_int (pa_cons pe_int (pa_cons pe_int (pa_cons pe_int (pa_cons pe_int pa_nil)))))))) pa_nil))) (pa_cons pe_int pa_nil))))
    (pss_cons
    (ps_set (i := 2) S_law.nd rfl (Or.inl rfl) (pe_call G__law_digits (hr.mono (by decide)) rfl m__law_digits k__law_digits b__law_digits .nil pass0 (pa_cons (pe_call G__law_cell (hr.mono (by decide)) rfl m__law_cell k__law_cell b__law_cell .nil pass0 (pa_cons (pv 0) (pa_cons pe_int pa_nil))) (pa_cons (pe_lst (pa_cons pe_int (pa_cons pe_int (pa_cons pe_int (pa_cons pe_int (pa_cons pe_int (pa_cons pe_int (pa_cons pe_int (pa_cons pe_int pa_nil))))))))) pa_nil))))
    (pss_cons
    (ps_set (i := 3) S_law.nd rfl (Or.inl rfl) (pe_call G__law_digits (hr.mono (by decide)) rfl m__law_digits k__law_digits b__law_digits .nil pass0 (pa_cons (pe_call G__law_cell (hr.mono (by decide)) rfl m__law_cell k__law_cell b__law_cell .nil pass0 (pa_cons (pv 0) (pa_cons pe_int pa_nil))) (pa_cons (pe_op op_rep (pe_lst (pa_cons pe_int pa_nil)) pe_int) pa_nil))))
    (pss_cons
    (ps_set (i := 4) S_law.nd rfl (Or.inl rfl) (pe_call G__law_digits (hr.mono (by decide)) rfl m__law_digits k__law_digits b__law_digits .nil pass0 (pa_cons (pe_call G__law_cell (hr.mono (by decide)) rfl m__law_cell k__law_cell b__law_cell .nil pass0 (pa_cons (pv 0) (pa_cons pe_int pa_nil))) (pa_cons (pe_op op_rep (pe_lst (pa_cons pe_int pa_nil)) pe_int) pa_nil))))
    (pss_cons
    (ps_set (i := 5) S_law.nd rfl (Or.inl rfl) (pe_call G__law_writing (hr.mono (by decide)) rfl m__law_writing k__law_writing b__law_writing .nil pass0 (pa_cons (pv 1) (pa_cons (pv 2) (pa_cons (pv 3) (pa_cons (pv 4) pa_nil))))))
    (pss_cons
    (ps_set (i := 6) S_law.nd rfl (Or.inl rfl) (pe_call G__law_form (hr.mono (by decide)) rfl m__law_form k__law_form b__law_form .nil pass0 (pa_cons (pe_ix (r := rIxL K) ix_list (pv 5) pe_int (fun _ _ => rfl)) (pa_cons (pe_ix (r := rIxL K) ix_list (pv 5) pe_int (fun _ _ => rfl)) pa_nil))))
    (pss_cons
    (ps_set (i := 7) S_law.nd rfl (Or.inl rfl) (pe_call G__law_digits (hr.mono (by decide)) rfl m__law_digits k__law_digits b__law_digits .nil pass0 (pa_cons (pe_call G__law_cell (hr.mono (by decide)) rfl m__law_cell k__law_cell b__law_cell .nil pass0 (pa_cons (pv 0) (pa_cons pe_int pa_nil))) (pa_cons (pe_lst (pa_cons pe_int (pa_cons pe_int (pa_cons pe_int (pa_cons pe_int (pa_cons pe_int (pa_cons pe_int (pa_cons pe_int (pa_cons pe_int (pa_cons pe_int pa_nil)))))))))) pa_nil))))
    (pss_cons
    (ps_set (i := 8) S_law.nd rfl (Or.inl rfl) (pe_call G__law_other (hr.mono (by decide)) rfl m__law_other k__law_other b__law_other .nil pass0 (pa_cons (pv 6) (pa_cons (pe_slice sl_list (pv 7) po_none (po_some pe_int)) pa_nil))))
    (pss_cons
    (ps_set (i := 9) S_law.nd rfl (Or.inl rfl) (pe_call G__law_near (hr.mono (by decide)) rfl m__law_near k__law_near b__law_near .nil pass0 (pa_cons (pv 1) (pa_cons (pv 8) (pa_cons (pe_slice sl_list (pv 7) (po_some pe_int) (po_some pe_int)) pa_nil)))))
    (pss_cons
    (ps_set (i := 10) S_law.nd rfl (Or.inl rfl) (pe_call G__law_wider (hr.mono (by decide)) rfl m__law_wider k__law_wider b__law_wider .nil pass0 (pa_cons (pv 1) (pa_cons (pe_ix (r := rIxL K) ix_list (pv 7) pe_int (fun _ _ => rfl)) pa_nil))))
    (pss_cons
    (ps_set (i := 11) S_law.nd rfl (Or.inl rfl) (pe_make mk_Round G_Round___init__ (hr.mono (by decide)) rfl T.c_Round b_Round___init__ .nil pass0 (pa_cons (pv 1) (pa_cons (pe_ix (r := rIxL K) ix_list (pv 5) pe_int (fun _ _ => rfl)) (pa_cons (pe_ix (r := rIxL K) ix_list (pv 5) pe_int (fun _ _ => rfl)) pa_nil)))))
    (pss_cons
    (ps_set (i := 12) S_law.nd rfl (Or.inl rfl) (pe_make mk_Round G_Round___init__ (hr.mono (by decide)) rfl T.c_Round b_Round___init__ .nil pass0 (pa_cons (pv 1) (pa_cons (pe_ix (r := rIxL K) ix_list (pv 8) pe_int (fun _ _ => rfl)) (pa_cons (pe_ix (r := rIxL K) ix_list (pv 8) pe_int (fun _ _ => rfl)) pa_nil)))))
    (pss_cons
    (ps_set (i := 13) S_law.nd rfl (Or.inl rfl) (pe_make mk_Round G_Round___init__ (hr.mono (by decide)) rfl T.c_Round b_Round___init__ .nil pass0 (pa_cons (pv 1) (pa_cons (pe_ix (r := rIxL K) ix_list (pv 9) pe_int (fun _ _ => rfl)) (pa_cons (pe_ix (r := rIxL K) ix_list (pv 9) pe_int (fun _ _ => rfl)) pa_nil)))))
    (pss_cons
    (ps_if (PW.pt (pw_or (pt_not (pt_val (pe_call G__law_has_form (hr.mono (by decide)) rfl m__law_has_form k__law_has_form b__law_has_form .nil pass0 (pa_cons (pv 11) (pa_cons (pv 1) (pa_cons (pv 6) pa_nil)))))) (pw_or1 (pt_not (pt_val (pe_call G__law_has_form (hr.mono (by decide)) rfl m__law_has_form k__law_has_form b__law_has_form .nil pass0 (pa_cons (pv 12) (pa_cons (pv 1) (pa_cons (pv 6) pa_nil))))))))) (pss_one
    (ps_ret pe_bl)) pss_nil)
    (pss_cons
    (ps_if (pt_not (pt_val (pe_call G__law_has_form (hr.mono (by decide)) rfl m__law_has_form k__law_has_form b__law_has_form .nil pass0 (pa_cons (pv 13) (pa_cons (pv 1) (pa_cons (pe_call G__law_form (hr.mono (by decide)) rfl m__law_form k__law_form b__law_form .nil pass0 (pa_cons (pe_ix (r := rIxL K) ix_list (pv 9) pe_int (fun _ _ => rfl)) (pa_cons (pe_ix (r := rIxL K) ix_list (pv 9) pe_int (fun _ _ => rfl)) pa_nil))) pa_nil)))))) (pss_one
    (ps_ret pe_bl)) pss_nil)
    (pss_cons
    (ps_set (i := 14) S_law.nd rfl (Or.inl rfl) (pe_callB (call_reprD g hr.units) rfl T.z_repr (by decide +kernel) (pa_cons (pe_lst (pa_cons (pe_fld (pv 11) rfl) (pa_cons (pe_fld (pv 11) rfl) (pa_cons (pe_fld (pv 11) rfl) (pa_cons (pe_fld (pv 11) rfl) pa_nil))))) pa_nil)))
    (pss_cons
    (ps_set (i := 15) S_law.nd rfl (Or.inl rfl) (pe_cmpR op_eq (pe_call G__law_beginning (hr.mono (by decide)) rfl m__law_beginning k__law_beginning b__law_beginning .nil pass0 (pa_cons (pe_ix (r := rIxL K) ix_list (pv 9) pe_int (fun _ _ => rfl)) (pa_cons (pe_ix (r := rIxL K) ix_list (pv 9) pe_int (fun _ _ => rfl)) (pa_cons pe_int pa_nil)))) (pe_call G__law_beginning (hr.mono (by decide)) rfl m__law_beginning k__law_beginning b__law_beginning .nil pass0 (pa_cons (pe_ix (r := rIxL K) ix_list (pv 5) pe_int (fun _ _ => rfl)) (pa_cons (pe_ix (r := rIxL K) ix_list (pv 5) pe_int (fun _ _ => rfl)) (pa_cons pe_int pa_nil)))) (nomark _)))
    (pss_cons
    (ps_if (PW.pt (pw_or (pt_not (pt_val (pe_call G__law_told (hr.mono (by decide)) rfl m__law_told k__law_told b__law_told .nil pass0 (pa_cons (pe_cmpR (op_own M_Round___eq__ G_Round___eq__ (hr.mono (by decide)) b_Round___eq__ pass0) (pv 11) (pv 12) (nomark _)) (pa_cons pe_bl pa_nil))))) (pw_or (pt_not (pt_val (pe_call G__law_told (hr.mono (by decide)) rfl m__law_told k__law_told b__law_told .nil pass0 (pa_cons (pe_cmpR (op_own M_Round___eq__ G_Round___eq__ (hr.mono (by decide)) b_Round___eq__ pass0) (pv 12) (pv 11) (nomark _)) (pa_cons pe_bl pa_nil))))) (pw_or1 (pt_not (pt_val (pe_call G__law_told (hr.mono (by decide)) rfl m__law_told k__law_told b__law_told .nil pass0 (pa_cons (pe_cmpR (op_own M_Round___eq__ G_Round___eq__ (hr.mono (by decide)) b_Round___eq__ pass0) (pv 11) (pv 11) (nomark _)) (pa_cons pe_bl pa_nil))))))))) (pss_one
    (ps_ret pe_bl)) pss_nil)
    (pss_cons
    (ps_if (PW.pt (pw_or (pt_not (pt_val (pe_call G__law_told (hr.mono (by decide)) rfl m__law_told k__law_told b__law_told .nil pass0 (pa_cons (pe_cmpR (op_own M_Round___eq__ G_Round___eq__ (hr.mono (by decide)) b_Round___eq__ pass0) (pv 11) (pv 13) (nomark _)) (pa_cons (pv 15) pa_nil))))) (pw_or1 (pt_not (pt_val (pe_call G__law_told (hr.mono (by decide)) rfl m__law_told k__law_told b__law_told .nil pass0 (pa_cons (pe_cmpR (op_own M_Round___eq__ G_Round___eq__ (hr.mono (by decide)) b_Round___eq__ pass0) (pv 13) (pv 12) (nomark _)) (pa_cons (pv 15) pa_nil)))))))) (pss_one
    (ps_ret pe_bl)) pss_nil)
    (pss_cons
    (ps_if (PW.pt (pw_or (pt_not (pt_val (pe_call G__law_told (hr.mono (by decide)) rfl m__law_told k__law_told b__law_told .nil pass0 (pa_cons (pe_cmpR (op_own M_Round___eq__ G_Round___eq__ (hr.mono (by decide)) b_Round___eq__ pass0) (pv 11) (pe_ix (r := rIxL K) ix_list (pv 5) pe_int (fun _ _ => rfl)) (nomark _)) (pa_cons pe_bl pa_nil))))) (pw_or1 (pt_not (pt_val (pe_call G__law_told (hr.mono (by decide)) rfl m__law_told k__law_told b__law_told .nil pass0 (pa_cons (pe_cmpR (op_own M_Round___eq__ G_Round___eq__ (hr.mono (by decide)) b_Round___eq__ pass0) (pv 11) (pe_fld (pv 11) rfl) (nomark _)) (pa_cons pe_bl pa_nil)))))))) (pss_one
    (ps_ret pe_bl)) pss_nil)
    (pss_cut
    (ps_if (pt_cmpR op_notN (pv 10) pe_non (nomark _)) (pss_cons
    (ps_set (i := 16) S_law.nd rfl (Or.inl rfl) (pe_make mk_Round G_Round___init__ (hr.mono (by decide)) rfl T.c_Round b_Round___init__ .nil pass0 (pa_cons (pv 10) (pa_cons (pe_ix (r := rIxL K) ix_list (pv 5) pe_int (fun _ _ => rfl)) (pa_cons (pe_ix (r := rIxL K) ix_list (pv 5) pe_int (fun _ _ => rfl)) pa_nil)))))
    (pss_one
    (ps_if (PW.pt (pw_or (pt_not (pt_val (pe_call G__law_has_form (hr.mono (by decide)) rfl m__law_has_form k__law_has_form b__law_has_form .nil pass0 (pa_cons (pv 16) (pa_cons (pv 10) (pa_cons (pv 6) pa_nil)))))) (pw_or (pt_not (pt_val (pe_call G__law_told (hr.mono (by decide)) rfl m__law_told k__law_told b__law_told .nil pass0 (pa_cons (pe_cmpR (op_own M_Round___eq__ G_Round___eq__ (hr.mono (by decide)) b_Round___eq__ pass0) (pv 11) (pv 16) (nomark _)) (pa_cons pe_bl pa_nil))))) (pw_or1 (pt_not (pt_val (pe_call G__law_told (hr.mono (by decide)) rfl m__law_told k__law_told b__law_told .nil pass0 (pa_cons (pe_cmpR (op_own M_Round___eq__ G_Round___eq__ (hr.mono (by decide)) b_Round___eq__ pass0) (pv 16) (pv 11) (nomark _)) (pa_cons pe_bl pa_nil))))))))) (pss_one
    (ps_ret pe_bl)) pss_nil))) pss_nil)
    (pss_cons
    (ps_set (i := 17) S_law.nd rfl (Or.inl rfl) (pe_op op_add (pe_callB call_len_str rfl T.z_len PySem.boot_len (pa_cons (pe_ix (r := rIxL K) ix_list (pv 6) pe_int (fun _ _ => rfl)) pa_nil)) (pe_callB call_len_str rfl T.z_len PySem.boot_len (pa_cons (pe_ix (r := rIxL K) ix_list (pv 6) pe_int (fun _ _ => rfl)) pa_nil))))
    (pss_cons
    (ps_set (i := 18) S_law.nd rfl (Or.inl rfl) (pe_op op_cat (pe_listRg rfl rfl T.z_list (prg_1 rfl T.z_range (pe_op op_add (pv 17) pe_int))) (pe_lst (pa_cons (pe_ix (r := rIxL K) ix_list (pv 7) pe_int (fun _ _ => rfl)) (pa_cons (pe_call G__law_giant (hr.mono (by decide)) rfl m__law_giant k__law_giant b__law_giant .nil pass0 (pa_cons (pe_call G__law_digits (hr.mono (by decide)) rfl m__law_digits k__law_digits b__law_digits .nil pass0 (pa_cons (pe_call G__law_cell (hr.mono (by decide)) rfl m__law_cell k__law_cell b__law_cell .nil pass0 (pa_cons (pv 0) (pa_cons pe_int pa_nil))) (pa_cons (pe_op op_cat (pe_lst (pa_cons pe_int pa_nil)) (pe_op op_rep (pe_lst (pa_cons pe_int pa_nil)) pe_int)) pa_nil))) pa_nil)) pa_nil)))))
    (pss_cons
    (ps_set (i := 19) S_law.nd rfl (Or.inl rfl) (pe_lst (pa_cons pe_int (pa_cons pe_int (pa_cons (pe_callB call_len_str rfl T.z_len PySem.boot_len (pa_cons (pe_ix (r := rIxL K) ix_list (pv 6) pe_int (fun _ _ => rfl)) pa_nil)) (pa_cons (pe_op op_sub (pv 17) pe_int) (pa_cons (pv 17) (pa_cons (pe_op op_add (pv 17) pe_int) (pa_cons (pe_ix (r := rIxL K) ix_list (pv 7) pe_int (fun _ _ => rfl)) pa_nil)))))))))
    (pss_cut
    (ps_if (pt_cmpR op_eq (pe_ix (r := rIxL K) ix_list (pv 7) pe_int (fun _ _ => rfl)) pe_int (nomark _)) (pss_one
    (ps_set (i := 19) S_law.nd rfl (Or.inl rfl) (pe_op op_cat (pv 19) (pe_lst (pa_cons (pe_ix (r := rIxL K) ix_list (pv 7) pe_int (fun _ _ => rfl)) pa_nil))))) pss_nil)
    (pss_cons
    (ps_if (PW.pt (pw_or (pt_not (pt_val (pe_call G__law_reads (hr.mono (by decide)) rfl m__law_reads k__law_reads b__law_reads .nil pass0 (pa_cons (pv 11) (pa_cons (pv 5) (pa_cons (pv 18) (pa_cons (pv 19) pa_nil))))))) (pw_or (pt_not (pt_val (pe_call G__law_reads (hr.mono (by decide)) rfl m__law_reads k__law_reads b__law_reads .nil pass0 (pa_cons (pv 13) (pa_cons (pv 9) (pa_cons (pv 18) (pa_cons (pv 19) pa_nil))))))) (pw_or1 (pt_not (pt_val (pe_call G__law_reads (hr.mono (by decide)) rfl m__law_reads k__law_reads b__law_reads .nil pass0 (pa_cons (pv 12) (pa_cons (pv 5) (pa_cons (pv 18) (pa_cons (pv 19) pa_nil))))))))))) (pss_one
    (ps_ret pe_bl)) pss_nil)
    (pss_cons
    (ps_set (i := 20) S_law.nd rfl (Or.inl rfl) (pe_makeK0 mk_Round G_Round___init__ (hr.mono (by decide)) rfl T.c_Round kb_Round___init__ pass0 (pk_cons (pe_ix (r := rIxL K) ix_list (pv 5) pe_int (fun _ _ => rfl)) (pk_cons (pe_ix (r := rIxL K) ix_list (pv 5) pe_int (fun _ _ => rfl)) (pk_cons (pv 1) pk_nil)))))
    (pss_cons
    (ps_if (PW.pt (pw_or (pt_not (pt_val (pe_call G__law_has_form (hr.mono (by decide)) rfl m__law_has_form k__law_has_form b__law_has_form .nil pass0 (pa_cons (pv 20) (pa_cons (pv 1) (pa_cons (pv 6) pa_nil)))))) (pw_or1 (pt_cmpR op_ne (pe_methN (pv 20) T.cl_Round M_Round_beginning G_Round_beginning (hr.mono (by decide)) kb_Round_beginning pass0 (pk_cons (pe_ix (r := rIxL K) ix_list (pv 7) pe_int (fun _ _ => rfl)) pk_nil)) (pe_call G__law_beginning (hr.mono (by decide)) rfl m__law_beginning k__law_beginning b__law_beginning .nil pass0 (pa_cons (pe_ix (r := rIxL K) ix_list (pv 5) pe_int (fun _ _ => rfl)) (pa_cons (pe_ix (r := rIxL K) ix_list (pv 5) pe_int (fun _ _ => rfl)) (pa_cons (pe_ix (r := rIxL K) ix_list (pv 7) pe_int (fun _ _ => rfl)) pa_nil)))) (nomark _))))) (pss_one
    (ps_ret pe_bl)) pss_nil)
    (pss_cons
    (ps_if (pt_cmpR op_ne (pe_methN (pv 20) T.cl_Round M_Round_letter_of G_Round_letter_of (hr.mono (by decide)) kb_Round_letter_of pass0 (pk_cons (pe_ix (r := rIxL K) ix_list (pv 7) pe_int (fun _ _ => rfl)) pk_nil)) (pe_ix ix_str (pe_call G__law_beginning (hr.mono (by decide)) rfl m__law_beginning k__law_beginning b__law_beginning .nil pass0 (pa_cons (pe_ix (r := rIxL K) ix_list (pv 5) pe_int (fun _ _ => rfl)) (pa_cons (pe_ix (r := rIxL K) ix_list (pv 5) pe_int (fun _ _ => rfl)) (pa_cons (pe_op op_add (pe_ix (r := rIxL K) ix_list (pv 7) pe_int (fun _ _ => rfl)) pe_int) pa_nil)))) (pe_un un_neg pe_int) (fun _ _ => rfl)) (nomark _)) (pss_one
    (ps_ret pe_bl)) pss_nil)
    (pss_cons
    (ps_if (pt_not (pt_val (pe_call G__law_refusals (hr.mono (by decide)) rfl m__law_refusals k__law_refusals b__law_refusals .nil pass0 (pa_cons (pv 1) (pa_cons (pv 5) (pa_cons (pe_call G__law_digits (hr.mono (by decide)) rfl m__law_digits k__law_digits b__law_digits .nil pass0 (pa_cons (pe_call G__law_cell (hr.mono (by decide)) rfl m__law_cell k__law_cell b__law_cell .nil pass0 (pa_cons (pv 0) (pa_cons pe_int pa_nil))) (pa_cons (pe_lst (pa_cons pe_int (pa_cons pe_int (pa_cons pe_int (pa_cons pe_int (pa_cons pe_int pa_nil)))))) pa_nil))) pa_nil)))))) (pss_one
    (ps_ret pe_bl)) pss_nil)
    (pss_cons
    (ps_set (i := 21) S_law.nd rfl (Or.inl rfl) (pe_call G__law_digits (hr.mono (by decide)) rfl m__law_digits k__law_digits b__law_digits .nil pass0 (pa_cons (pe_call G__law_cell (hr.mono (by decide)) rfl m__law_cell k__law_cell b__law_cell .nil pass0 (pa_cons (pv 0) (pa_cons pe_int pa_nil))) (pa_cons (pe_lst (pa_cons pe_int (pa_cons pe_int (pa_cons pe_int pa_nil)))) pa_nil))))
    (pss_cons
    (ps_if (PW.pt (pw_and (pt_cmpR op_eq (pe_ix (r := rIxL K) ix_list (pv 21) pe_int (fun _ _ => rfl)) pe_int (nomark _)) (pw_and1 (pt_not (pt_val (pe_call G__law_long_right (hr.mono (by decide)) rfl m__law_long_right k__law_long_right b__law_long_right .nil pass0 (pa_cons (pv 1) (pa_cons (pv 11) (pa_cons (pv 6) (pa_cons (pe_slice sl_list (pv 21) (po_some pe_int) po_none) pa_nil)))))))))) (pss_one
    (ps_ret pe_bl)) pss_nil)
    (pss_one
    (ps_ret (pe_and (pe_cmpR op_eq (pe_callB (call_reprD g hr.units) rfl T.z_repr (by decide +kernel) (pa_cons (pe_lst (pa_cons (pe_fld (pv 11) rfl) (pa_cons (pe_fld (pv 11) rfl) (pa_cons (pe_fld (pv 11) rfl) (pa_cons (pe_fld (pv 11) rfl) pa_nil))))) pa_nil)) (pv 14) (nomark _)) (pe_one (pe_call G__law_has_form (hr.mono (by decide)) rfl m__law_has_form k__law_has_form b__law_has_form .nil pass0 (pa_cons (pe_make mk_Round G_Round___init__ (hr.mono (by decide)) rfl T.c_Round b_Round___init__ .nil pass0 (pa_cons (pv 1) (pa_cons (pe_ix (r := rIxL K) ix_list (pv 5) pe_int (fun _ _ => rfl)) (pa_cons (pe_ix (r := rIxL K) ix_list (pv 5) pe_int (fun _ _ => rfl)) pa_nil)))) (pa_cons (pv 1) (pa_cons (pv 6) pa_nil)))))))))))))))))))))))))))))))))))))))), ?_⟩
  have cel : ∀ {σ : L2.St} {H1 : Hp} {k : Int}, Ex H H1 → σ[0]? = some (some (.ref a)) → (0 ≤ k ∧ k ≤ 1000) → Ev (tCall (spCell K) [] E0 (tCons (tVar 0) (tCons (tC (.int k)) tNil))) σ H1 (.int (cell ns k)) := fun e h0 hk => ev_call (ea_cons (ev_var h0) (ea_cons ev_c ea_nil)) (sv_cell (ex_l e hS) h63 hk)
  have rep6 : ∀ {σ : L2.St} {H1 : Hp}, EvL (tOp rRep (tLst (tCons (tC (.int 6)) tNil)) (tC (.int 60))) σ H1 (Z60.map V.int) := fun {σ H1} => el_eq (el_rep (n := 60) (el_lst (ea_cons ev_c ea_nil) (by show 1 ≤ 100000; decide)) (fun _ _ => ev_c) (by show 1 * 60 ≤ 100000; decide) (by decide)) (by rw [flat_one']; exact map_rep'.symm)
  have rep31 : ∀ {σ : L2.St} {H1 : Hp}, EvL (tOp rCat (tLst (tCons (tC (.int 32)) tNil)) (tOp rRep (tLst (tCons (tC (.int 10)) tNil)) (tC (.int 30)))) σ H1 (Z31.map V.int) := fun {σ H1} => el_eq (el_catL (xs := [V.int 32]) (el_lst (ea_cons ev_c ea_nil) (by show 1 ≤ 100000; decide)) (el_rep (n := 30) (el_lst (ea_cons ev_c ea_nil) (by show 1 ≤ 100000; decide)) (fun _ _ => ev_c) (by show 1 * 30 ≤ 100000; decide) (by decide)) (by rw [flat_one']; show 1 + _ ≤ 100000; rw [List.length_replicate]; decide)) (by rw [flat_one']; unfold Z31; rw [List.map_append, map_rep']; rfl)
  have i1 := fun i (hi : i < 7) => digits_at (c := cell ns 0) (ss := Z7) (i := i) hi (z7_ok i hi).1
  refine q_asgR (run_cEL (xs := (digits (cell ns 0) Z7).map V.int) (el_digs (ss := Z7) (cel (Ex.refl H) rfl (by decide)) (el_lst (ea_cons ev_c (ea_cons ev_c (ea_cons ev_c (ea_cons ev_c (ea_cons ev_c (ea_cons ev_c (ea_cons ev_c ea_nil))))))) (by show 7 ≤ 100000; decide)) (by decide) z7_ok) (fun _ _ => ev_c) fun p0 H0 e0 g0 => ⟨p0, digits (cell ns 0) Z7, rfl, sq_of g0, by rw [digits_len]; rfl, i1 0 (by decide), fun al hA H1 e1 => ?_⟩)
  have e01 := e0.trans e1
  refine q_asgL (el_digs (ss := Z8) (cel e01 rfl (by decide)) (el_lst (ea_cons ev_c (ea_cons ev_c (ea_cons ev_c (ea_cons ev_c (ea_cons ev_c (ea_cons ev_c (ea_cons ev_c (ea_cons ev_c ea_nil)))))))) (by show 8 ≤ 100000; decide)) (by decide) z8_ok) fun rp H2 hrp e2 g2 => ?_
  have e02 := e01.trans e2
  refine q_asgL (el_digs (ss := Z60) (cel e02 rfl (by decide)) rep6 (by decide) z60_ok) fun op H3 hop e3 g3 => ?_
  have e03 := e02.trans e3
  refine q_asgL (el_digs (ss := Z60) (cel e03 rfl (by decide)) rep6 (by decide) z60_ok) fun tp H4 htp e4 g4 => ?_
  have e04 := e03.trans e4
  have hW := w_rw (cell ns 1)
  refine q_callD (vs := [tx al, .ref rp, .ref op, .ref tp]) (dvs := []) (ea_cons (ev_var rfl) (ea_cons (ev_var rfl) (ea_cons (ev_var rfl) (ea_cons (ev_var rfl) ea_nil)))) fun H5 e5 =>
    ⟨al, rp, op, tp, _, _, _, rfl, hA, sq_of (e5 _ _ (e4 _ _ (e3 _ _ g2))), hW, sq_of (e5 _ _ (e4 _ _ g3)), by rw [digits_len]; rfl, sq_of (e5 _ _ g4), by rw [digits_len]; rfl, fun h v oh lh ov l1 lv mp H6 hmp e6 g6 => ?_⟩
  have e06 := (e04.trans e5).trans e6
  clear g0 g2 g3 g4 hW
  have fld : ∀ {σ : L2.St} {H' : Hp} {p : Addr} {x y : List Nat} (i : Nat), σ[i]? = some (some (.ref p)) → SqL K H' p [tx x, tx y] → Ev (tOp (rIxL K) (tVar i) (tC (.int 0))) σ H' (tx x) ∧ Ev (tOp (rIxL K) (tVar i) (tC (.int 1))) σ H' (tx y) := fun i hs hq => ⟨ev_op (ev_var hs) ev_c (rv_ixL hq rfl), ev_op (ev_var hs) ev_c (rv_ixL hq rfl)⟩
  refine q_callD (vs := [tx h, tx v]) (dvs := []) (ea_cons (fld 5 rfl (sq_of g6)).1 (ea_cons (fld 5 rfl (sq_of g6)).2 ea_nil)) fun H7 e7 => ⟨h, v, rfl, l1, lv, lh, fun fa fb vty lab sab bp b60 ale fp H8 hfp e8 g8 => ?_⟩
  have e08 := (e06.trans e7).trans e8
  have g68 := e8 _ _ (e7 _ _ g6)
  have a60 : fa.length ≤ 60 := by omega
  obtain ⟨oa, ob⟩ := onl_form sab oh ov l1
  have fexv : ex h v = ex fa fb := funext fun i => (sab i).symm
  rw [fexv] at vty
  refine q_asgL (el_digs (ss := Z9) (cel e08 rfl (by decide)) (el_lst (ea_cons ev_c (ea_cons ev_c (ea_cons ev_c (ea_cons ev_c (ea_cons ev_c (ea_cons ev_c (ea_cons ev_c (ea_cons ev_c (ea_cons ev_c ea_nil))))))))) (by show 9 ≤ 100000; decide)) (by decide) z9_ok) fun xp H9 hxp e9 g9 => ?_
  have e09 := e08.trans e9
  have zlen : (digits (cell ns 4) Z9).length = 9 := by rw [digits_len]; rfl
  have z9 := fun i (hi : i < 9) => digits_at (c := cell ns 4) (ss := Z9) (i := i) hi (z9_ok i hi).1
  have z6 := z9 6 (by decide)
  have z8 := z9 8 (by decide)
  have y6 : at0 Z9 6 = 301 := rfl
  have y8 : at0 Z9 8 = 20001 := rfl
  generalize digits (cell ns 4) Z9 = zz at g9 zlen z6 z8
  clear z9
  have g89 := e9 _ _ g8
  have g69 := e9 _ _ g68
  refine q_asgR (run_cEL2 (ev_var rfl) (el_to (n := 2) rfl (ev_var rfl) (sq_of g9)) fun p2 H10 e10 g10 => ⟨fp, p2, al, fa, fb, zz.take 2, rfl, sq_of (e10 _ _ g89), sq_of g10, by rw [List.length_take, zlen]; rfl, oa, ob, bp, b60, a60, fun h2 v2 same2 oh2 ov2 l12 lv2 lh2 sp H11 hsp e11 g11 => ?_⟩)
  have e011 := (e09.trans e10).trans e11
  have e911 := e10.trans e11
  refine q_asgR (run_cEEL (ev_var rfl) (ev_var rfl) (el_both (n := 2) (k := 3) (ev_var rfl) (sq_of (e911 _ _ g9)) ev_c ev_c) fun p3 H12 e12 g12 => ⟨al, sp, p3, h2, v2, (zz.drop 2).take 3, rfl, hA, sq_of (e12 _ _ g11), sq_of g12, by rw [List.length_take, List.length_drop, zlen]; rfl, oh2, ov2, lh2, l12, lv2, fun h3 v3 oh3 lh3 ov3 l13 lv3 np H13 hnp e13 g13 => ?_⟩)
  have e1113 := e12.trans e13
  have e013 := e011.trans e1113
  have e913 := e911.trans e1113
  refine q_asgR (run_wid (n := at0 zz 5) hA (ea_cons (ev_var rfl) (ea_cons (ev_atI (i := 5) (sq_of (e913 _ _ g9)) (by omega) rfl (ev_var rfl) ev_c) ea_nil)) fun wv H14 e14 hwv => ?_)
  have e914 := e913.trans e14
  have g514 := e914 _ _ g69
  refine q_asgR (run_rndA (h := h) (v := v) hA oh ov l1 (by omega) (by omega) (ea_cons (ev_var rfl) (ea_cons (fld 5 rfl (sq_of g514)).1 (ea_cons (fld 5 rfl (sq_of g514)).2 ea_nil))) fun r1 N1 H15 hr1 e15 hN1 hR1 hL1 => ?_)
  have s15 := (e1113.trans e14).trans e15
  refine q_asgR (run_rndA (h := h2) (v := v2) hA oh2 ov2 l12 (by omega) (by omega) (ea_cons (ev_var rfl) (ea_cons (fld 8 rfl (sq_of (s15 _ _ g11))).1 (ea_cons (fld 8 rfl (sq_of (s15 _ _ g11))).2 ea_nil))) fun r2 N2 H16 hr2 e16 hN2 hR2 hL2 => ?_)
  have n16 := (e14.trans e15).trans e16
  refine q_asgR (run_rndA (h := h3) (v := v3) hA oh3 ov3 l13 (by omega) (by omega) (ea_cons (ev_var rfl) (ea_cons (fld 9 rfl (sq_of (n16 _ _ g13))).1 (ea_cons (fld 9 rfl (sq_of (n16 _ _ g13))).2 ea_nil))) fun r3 N3 H17 hr3 e17 hN3 hR3 hL3 => ?_)
  -- where all stands
  have e917 := (((e914.trans e15).trans e16).trans e17)
  have e017 := e09.trans e917
  have m17 : SqL K H17 mp [tx h, tx v] := sq_of (e917 _ _ g69)
  have f17 : SqL K H17 fp [tx fa, tx fb] := sq_of (e917 _ _ g89)
  have x17 : SqL K H17 xp (zz.map V.int) := sq_of (e917 _ _ g9)
  have n17 : SqL K H17 np [tx h3, tx v3] := sq_of ((n16.trans e17) _ _ g13)
  obtain ⟨R1, I1⟩ := rnd_same hR1 hL1 vty (fun i => congrFun fexv i) bp
  obtain ⟨R2, I2⟩ := rnd_same hR2 hL2 vty same2 bp
  have R1 := R1.mono (e16.trans e17)
  have I1 := I1.mono (e16.trans e17)
  have R2 := R2.mono e17
  have I2 := I2.mono e17
  obtain ⟨a3, b3, n3, bp3, same3, I3⟩ := rnd_forms hR3 hL3
  clear g6 g68 g8 g9 g10 g11 g12 g13 g69 g89 g514 hR1 hL1 hR2 hL2
  have hf : ∀ {σ : L2.St} {H' : Hp} {p : Addr} (i : Nat), Ex H17 H' → σ[i]? = some (some (.ref p)) → σ[1]? = some (some (tx al)) → σ[6]? = some (some (.ref fp)) → RndI C_Round H17 p al fa fb → EvT (tNot (tB (tCall (spHf K C_Round) [] E0 (tCons (tVar i) (tCons (tVar 1) (tCons (tVar 6) tNil)))))) σ H' false := fun i x s1 s2 s3 I =>
    et_is (et_not (a := true) (et_B (ev_call (ea_cons (ev_var s1) (ea_cons (ev_var s2) (ea_cons (ev_var s3) ea_nil))) (sv_hf (I.mono x) (ex_l x f17) (by omega) (by omega))))) rfl
  refine q_norm (σ' := [some (.ref a), some (tx al), some (.ref rp), some (.ref op), some (.ref tp), some (.ref mp), some (.ref fp), some (.ref xp), some (.ref sp), some (.ref np), some wv, some (.ref r1), some (.ref r2), some (.ref r3), none, none, none, none, none, none, none, none]) rfl ?_
  refine q_skip (et_is (et_or (a := false) (hf 11 (Ex.refl _) rfl rfl rfl I1) (fun _ => hf 12 (Ex.refl _) rfl rfl rfl I2)) rfl) fun H18 e18 => ?_
  refine q_skip (et_is (et_not (a := true) (et_hfForm (ev_var rfl) (ev_var rfl) (ea_cons (fld 9 rfl (ex_l e18 n17)).1 (ea_cons (fld 9 rfl (ex_l e18 n17)).2 ea_nil)) (hR3.mono e18) (hL3.mono e18) l13 lv3 lh3)) rfl) fun H19 e19 => ?_
  have t19 := e18.trans e19
  have cl := T.cl_Round
  obtain ⟨dx1, ip1⟩ := id I1
  have uni : ∀ {s : List Nat}, Onl al s → ∀ c ∈ s, c < 1114112 := fun o c hc => hA.uni (o c hc)
  have rep : ∀ {σ : L2.St} {H' : Hp}, Ex H17 H' → σ[11]? = some (some (.ref r1)) → Ev (tCB (rReprD K) (tCons (tLst (tCons (tFld K (tVar 11) "alphabet") (tCons (tFld K (tVar 11) "head") (tCons (tFld K (tVar 11) "ring") (tCons (tFld K (tVar 11) "variety") tNil))))) tNil)) σ H' (.str (pd4 al fa fb ((fa.length + fb.length : Nat) : Int)).shown) := fun x hs =>
    ev_repr4 (ev_fld (ev_var hs) (x _ _ ip1) cl T.n_Round_alphabet rf_alphabet) (ev_fld (ev_var hs) (x _ _ ip1) cl T.n_Round_head rf_head) (ev_fld (ev_var hs) (x _ _ ip1) cl T.n_Round_ring rf_ring) (ev_fld (ev_var hs) (x _ _ ip1) cl T.n_Round_variety rf_variety) (fun c hc => hA.uni hc) (uni oa) (uni ob) (by have := hA.six; omega) (by omega) (by omega) (by
      rw [Int.natAbs_natCast]
      exact Nat.lt_of_le_of_lt (show fa.length + fb.length ≤ 1000 by omega) (by decide +kernel))
  refine q_asg (rep t19 rfl) fun H20 e20 => ?_
  have t20 := t19.trans e20
  have begM : ∀ {σ : L2.St} {H' : Hp} {te : TE} {n : Nat}, Ex H17 H' → σ[5]? = some (some (.ref mp)) → Ev te σ H' (.int (n : Int)) → n ≤ 25000 → Ev (tCall spLb [] E0 (tCons (tOp (rIxL K) (tVar 5) (tC (.int 0))) (tCons (tOp (rIxL K) (tVar 5) (tC (.int 1))) (tCons te tNil)))) σ H' (tx (beg (ex h v) n)) := fun x hs hn hz => ev_call (ea_cons (fld 5 hs (ex_l x m17)).1 (ea_cons (fld 5 hs (ex_l x m17)).2 (ea_cons hn ea_nil))) (sv_lb (by omega) (by omega) (by omega) hz)
  have alk := alike_is (a := fa) (b := fb) (a2 := a3) (b2 := b3) lh lh3 l1 l13 lv lv3 (by rw [fexv]; exact vty) hR3.vty sab same3 rfl n3 bp bp3
  refine q_asg (v := .bl (decide (beg (ex h3 v3) 240 = beg (ex h v) 240))) (ev_is (ev_op (ev_call (ea_cons (fld 9 rfl (ex_l t20 n17)).1 (ea_cons (fld 9 rfl (ex_l t20 n17)).2 (ea_cons ev_c ea_nil))) (sv_lb (n := 240) (by omega) (by omega) (by omega) (by decide))) (begM (n := 240) t20 rfl ev_c (by decide)) (rv_eq rfl)) (by rw [tx_dec])) fun H21 e21 => ?_
  have t21 := t20.trans e21
  have told : ∀ {σ : L2.St} {H' : Hp} {p t : Addr} (i j : Nat), Ex H17 H' → σ[i]? = some (some (.ref p)) → σ[j]? = some (some (.ref t)) → RndI C_Round H17 p al fa fb → RndI C_Round H17 t al fa fb → EvT (tNot (tB (tCall spTold [] E0 (tCons (tOp (rOwn C_Round (spREq C_Round) E0) (tVar i) (tVar j)) (tCons (tC (.bl true)) tNil))))) σ H' false := fun i j x s1 s2 k1 k2 => ev_toldE (ev_same (ev_var s1) (ev_var s2) (k1.mono x) (k2.mono x)) ev_c rfl
  refine q_skip (et_is (et_or (a := false) (told 11 12 t21 rfl rfl I1 I2) (fun _ => et_or (a := false) (told 12 11 t21 rfl rfl I2 I1) (fun _ => told 11 11 t21 rfl rfl I1 I1))) rfl) fun H22 e22 => ?_
  have t22 := t21.trans e22
  refine q_skip (et_is (et_or (a := false) (ev_toldE (ev_req (ev_var rfl) (ev_var rfl) (I1.mono t22) (I3.mono t22)) (ev_var rfl) (by rw [alk, decide_eq_true (show al = al from rfl)]; rfl)) (fun _ => ev_toldE (ev_req (ev_var rfl) (ev_var rfl) (I3.mono t22) (I2.mono t22)) (ev_var rfl) (by
    rw [alk, decide_eq_true (show al = al from rfl), Bool.true_and]
    congr 1
    · exact decide_eq_decide.mpr ⟨Eq.symm, Eq.symm⟩
    · exact decide_eq_decide.mpr ⟨Eq.symm, Eq.symm⟩))) rfl) fun H23 e23 => ?_
  have t23 := t22.trans e23
  refine q_skip (et_is (et_or (a := false) (ev_toldE (ev_reqS (ev_var rfl) (fld 5 rfl (ex_l t23 m17)).1 (I1.mono t23)) ev_c rfl) (fun _ => ev_toldE (ev_reqS (ev_var rfl) (ev_fld (ev_var rfl) (t23 _ _ ip1) cl T.n_Round_ring rf_ring) (I1.mono t23)) ev_c rfl)) rfl) fun H24 e24 => ?_
  have t24 := t23.trans e24
  refine q_cut (M := fun σ' H' => (∃ u16, σ' = [some (.ref a), some (tx al), some (.ref rp), some (.ref op), some (.ref tp), some (.ref mp), some (.ref fp), some (.ref xp), some (.ref sp), some (.ref np), some wv, some (.ref r1), some (.ref r2), some (.ref r3), some (.str (pd4 al fa fb ((fa.length + fb.length : Nat) : Int)).shown), some (.bl (decide (beg (ex h3 v3) 240 = beg (ex h v) 240))), u16, none, none, none, none, none]) ∧ Ex H17 H') ?_ ?_
  · refine s_when (et_test (ev_op (ev_var rfl) ev_c rv_notN)) (fun hb H25 e25 => ?_) (fun hb H25 e25 => ⟨⟨_, rfl⟩, t24.trans e25⟩)
    rcases hwv with rfl | ⟨wl, rfl, hWl, ne, sub⟩
    · exact absurd hb (by decide)
    have t25 := t24.trans e25
    have up : ∀ {s : List Nat}, Onl al s → Onl wl s := fun o c hc => sub c (o c hc)
    refine q_asgR (run_rndA (h := h) (v := v) hWl (up oh) (up ov) l1 (by omega) (by omega) (ea_cons (ev_var rfl) (ea_cons (fld 5 rfl (ex_l t25 m17)).1 (ea_cons (fld 5 rfl (ex_l t25 m17)).2 ea_nil))) fun r4 N4 H26 hr4 e26 hN4 hR4 hL4 => ?_)
    have t26 := t25.trans e26
    obtain ⟨R4, I4⟩ := rnd_same hR4 hL4 vty (fun i => congrFun fexv i) bp
    have nal : decide (al = wl) = false := decide_eq_false fun z => ne z.symm
    have naw : decide (wl = al) = false := decide_eq_false ne
    refine s_skip (et_is (et_or (a := false) (et_is (et_not (a := true) (et_B (ev_call (ea_cons (ev_var rfl) (ea_cons (ev_var rfl) (ea_cons (ev_var rfl) ea_nil))) (sv_hf I4 (ex_l t26 f17) (by omega) (by omega))))) rfl) (fun _ => et_or (a := false) (ev_toldE (ev_req (ev_var rfl) (ev_var rfl) (I1.mono t26) I4) ev_c (by rw [nal]; rfl)) (fun _ => ev_toldE (ev_req (ev_var rfl) (ev_var rfl) I4 (I1.mono t26)) ev_c (by rw [naw]; rfl)))) rfl) fun H27 e27 => ⟨⟨_, rfl⟩, t26.trans e27⟩
  intro σ' H25 z
  obtain ⟨⟨u16, rfl⟩, t25⟩ := z
  have turn : ∀ {σ : L2.St} {H' : Hp}, Ex H17 H' → σ[6]? = some (some (.ref fp)) → Ev (tOp (rI0 fun i j => .int (i + j)) (tCB (fun vs H Q => ∃ z : Str, vs = [.str z] ∧ z.length ≤ sizeLine ∧ Q (.int (z.length : Int)) H) (tCons (tOp (rIxL K) (tVar 6) (tC (.int 0))) tNil)) (tCB (fun vs H Q => ∃ z : Str, vs = [.str z] ∧ z.length ≤ sizeLine ∧ Q (.int (z.length : Int)) H) (tCons (tOp (rIxL K) (tVar 6) (tC (.int 1))) tNil))) σ H' (.int ((fa.length + fb.length : Nat) : Int)) := fun x hs =>
    ev_is (ev_add (ev_lenS (by omega) (fld 6 hs (ex_l x f17)).1) (ev_lenS (by omega) (fld 6 hs (ex_l x f17)).2)) (by rw [Int.natCast_add])
  obtain ⟨n6, en6⟩ : ∃ k : Nat, at0 zz 6 = (k : Int) := ⟨(at0 zz 6).toNat, by omega⟩
  obtain ⟨n8, en8⟩ : ∃ k : Nat, at0 zz 8 = (k : Int) := ⟨(at0 zz 8).toNat, by omega⟩
  have b6 : n6 ≤ 300 := by omega
  have b8 : n8 ≤ 20000 := by omega
  have x6 : ∀ {σ : L2.St} {H' : Hp}, Ex H17 H' → σ[7]? = some (some (.ref xp)) → Ev (tOp (rIxL K) (tVar 7) (tC (.int 6))) σ H' (.int (n6 : Int)) := fun x hs => ev_is (ev_atI (i := 6) (ex_l x x17) (by omega) rfl (ev_var hs) ev_c) (by rw [en6])
  refine q_asg (turn t25 rfl) fun H26 e26 => ?_
  have t26 := t25.trans e26
  have gr := gi_row (cell ns 5)
  refine q_asgL (xs := (List.range (fa.length + fb.length + 2) ++ [n6, giv (digits (cell ns 5) Z31)]).map ivn) (el_eq (el_catL (el_lrg (n := fa.length + fb.length + 2) (ev_is (ev_add (ev_var rfl) ev_c) (by rw [Int.natCast_add]; rfl)) (by omega)) (el_lst (vs := [ivn n6, ivn (giv (digits (cell ns 5) Z31))]) (ea_cons (x6 t26 rfl) (ea_cons (ev_callL (xs := (digits (cell ns 5) Z31).map V.int) (el_digs (ss := Z31) (cel (e017.trans t26) rfl (by decide)) rep31 (by decide) z31_ok) (fun p H18 e18 g18 => fun _ x _ q' _ => ⟨p, _, rfl, sq_of (x _ _ g18), gr.1, gr.2.1, gr.2.2, q'⟩)) ea_nil)) (by show 2 ≤ 100000; decide)) (by
    rw [List.length_map, nl_len]
    show _ + 2 ≤ _
    omega)) (by
    rw [List.map_append]
    unfold nl
    rw [List.map_map]
    rfl)) fun ip H27 hip e27 g27 => ?_
  have t27 := t26.trans e27
  refine q_asgL (xs := [0, 1, fa.length, fa.length + fb.length - 1, fa.length + fb.length, fa.length + fb.length + 1, n6].map ivn) (el_lst (ea_cons ev_c (ea_cons ev_c (ea_cons (ev_lenS (l := fa) (by omega) (fld 6 rfl (ex_l t27 f17)).1) (ea_cons (ev_is (ev_sub (ev_var rfl) ev_c) (by congr 1; omega)) (ea_cons (ev_var rfl) (ea_cons (ev_is (ev_add (ev_var rfl) ev_c) (by rw [Int.natCast_add]; rfl)) (ea_cons (x6 t27 rfl) ea_nil))))))) (by show 7 ≤ 100000; decide)) fun lp H28 hlp e28 g28 => ?_
  have t28 := t27.trans e28
  refine q_cut (M := fun σ' H' => ∃ (lp : Addr) (ls : List Nat), σ' = [some (.ref a), some (tx al), some (.ref rp), some (.ref op), some (.ref tp), some (.ref mp), some (.ref fp), some (.ref xp), some (.ref sp), some (.ref np), some wv, some (.ref r1), some (.ref r2), some (.ref r3), some (.str (pd4 al fa fb ((fa.length + fb.length : Nat) : Int)).shown), some (.bl (decide (beg (ex h3 v3) 240 = beg (ex h v) 240))), u16, some (.int ((fa.length + fb.length : Nat) : Int)), some (.ref ip), some (.ref lp), none, none] ∧ Ex H27 H' ∧ H' lp = some (.lst (ls.map ivn)) ∧ ∀ n ∈ ls, n ≤ 25000) ?_ ?_
  · have small : ∀ n ∈ [0, 1, fa.length, fa.length + fb.length - 1, fa.length + fb.length, fa.length + fb.length + 1, n6], n ≤ 25000 := by
      intro n hn
      simp only [List.mem_cons, List.not_mem_nil, or_false] at hn
      omega
    refine s_when (et_test (ev_op (ev_atI (i := 7) (ex_l t28 x17) (by omega) rfl (ev_var rfl) ev_c) ev_c (rv_eq rfl))) (fun hb H29 e29 => ?_) (fun hb H29 e29 => ⟨lp, _, rfl, e28.trans e29, e29 _ _ g28, small⟩)
    have t29 := t28.trans e29
    refine s_asgL (xs := ([0, 1, fa.length, fa.length + fb.length - 1, fa.length + fb.length, fa.length + fb.length + 1, n6] ++ [n8]).map ivn) (el_eq (el_catB (ev_var rfl) (e29 _ _ g28) (el_lst (vs := [ivn n8]) (ea_cons (ev_is (ev_atI (i := 8) (ex_l t29 x17) (by omega) rfl (ev_var rfl) ev_c) (by rw [en8])) ea_nil) (by show 1 ≤ 100000; decide)) (by show 7 + 1 ≤ 100000; decide)) (by rw [List.map_append]; rfl)) fun lp2 H30 hlp2 e30 g30 => ⟨lp2, _, rfl, (e28.trans e29).trans e30, g30, fun n hn => ?_⟩
    rcases List.mem_append.mp hn with hn | hn
    · exact small n hn
    · rw [List.mem_singleton.mp hn]
      omega
  intro σ' H31 z
  obtain ⟨lp, ls, rfl, e31, g31, lsm⟩ := z
  have t31 := t27.trans e31
  have g2731 := e31 _ _ g27
  have Rv1 : RndAt C_Round H17 r1 (ex h v) (fa.length + fb.length) := by rw [fexv]; exact R1
  have Rv2 : RndAt C_Round H17 r2 (ex h v) (fa.length + fb.length) := by rw [fexv]; exact R2
  refine q_skip (et_is (et_or (a := false) (et_is (et_not (a := true) (et_B (ev_call (ea_cons (ev_var rfl) (ea_cons (ev_var rfl) (ea_cons (ev_var rfl) (ea_cons (ev_var rfl) ea_nil)))) (sv_reads (Rv1.mono t31) (by omega) (ex_l t31 m17) l1 (by omega) (by omega) (sq_of g2731) (sq_of g31) lsm)))) rfl) (fun _ => et_or (a := false) (et_is (et_not (a := true) (et_B (ev_call (ea_cons (ev_var rfl) (ea_cons (ev_var rfl) (ea_cons (ev_var rfl) (ea_cons (ev_var rfl) ea_nil)))) (sv_reads (hR3.mono t31) (by omega) (ex_l t31 n17) l13 (by omega) (by omega) (sq_of g2731) (sq_of g31) lsm)))) rfl)
    (fun _ => et_is (et_not (a := true) (et_B (ev_call (ea_cons (ev_var rfl) (ea_cons (ev_var rfl) (ea_cons (ev_var rfl) (ea_cons (ev_var rfl) ea_nil)))) (sv_reads (Rv2.mono t31) (by omega) (ex_l t31 m17) l1 (by omega) (by omega) (sq_of g2731) (sq_of g31) lsm)))) rfl))) rfl) fun H32 e32 => ?_
  have t32 := t31.trans e32
  refine q_asgR (run_rndK (h := h) (v := v) hA oh ov l1 (by omega) (by omega) (ea_cons (fld 5 rfl (ex_l t32 m17)).2 (ea_cons (fld 5 rfl (ex_l t32 m17)).1 (ea_cons (ev_var rfl) ea_nil))) fun r5 N5 H33 hr5 e33 hN5 hR5 hL5 => ?_)
  have t33 := t32.trans e33
  obtain ⟨R5, I5⟩ := rnd_same hR5 hL5 vty (fun i => congrFun fexv i) bp
  obtain ⟨dx5, ip5⟩ := id I5
  refine q_skip (et_is (et_or (a := false) (et_is (et_not (a := true) (et_B (ev_call (ea_cons (ev_var rfl) (ea_cons (ev_var rfl) (ea_cons (ev_var rfl) ea_nil))) (sv_hf I5 (ex_l t33 f17) (by omega) (by omega))))) rfl) (fun _ => et_is (et_neS (a := beg (ex h v) n6) (b := beg (ex h v) n6) (ev_methN (ev_var rfl) ip5 (rf_none (by decide) (by decide) (by decide) (by decide)) (ea_cons (x6 t33 rfl) ea_nil) rfl (sv_beg hR5 (by omega) (by omega))) (begM (n := n6) t33 rfl (x6 t33 rfl) (by omega))) (by rw [decide_eq_true rfl]; rfl))) rfl) fun H34 e34 => ?_
  have t34 := t33.trans e34
  have lst6 : (beg (ex h v) (n6 + 1)).length = n6 + 1 := beg_len _ _
  refine q_skip (et_is (et_neS (a := [ex h v n6]) (b := [ex h v n6]) (ev_methN (ev_var rfl) (e34 _ _ ip5) (rf_none (by decide) (by decide) (by decide) (by decide)) (ea_cons (x6 t34 rfl) ea_nil) rfl (sv_let (hR5.mono e34) (by omega))) (ev_is (ev_ixB (l := beg (ex h v) (n6 + 1)) (k := 0) (by omega) (by omega) (begM (n := n6 + 1) t34 rfl (ev_is (ev_add (x6 t34 rfl) ev_c) (by rw [Int.natCast_add]; rfl)) (by omega)) (ev_is (ev_un ev_c ru_neg) rfl)) (by
    rw [lst6, show n6 + 1 - 1 - 0 = n6 by omega, beg_getD (by omega)]))) (by rw [decide_eq_true rfl]; rfl)) fun H35 e35 => ?_
  have t35 := t34.trans e35
  have d6 := fun i (hi : i < 5) => digits_at (c := cell ns 6) (ss := [61, 61, 43, 43, 8]) (i := i) hi (by revert i; decide)
  have d64 := d6 4 (by decide)
  have y64 : at0 [61, 61, 43, 43, 8] 4 = (8 : Int) := rfl
  refine q_skip (et_is (et_not (a := true) (et_B (fun H36 e36 Q' q' => run_cEEL (Q := Q') (ev_var rfl) (ev_var rfl) (el_digs (ss := [61, 61, 43, 43, 8]) (cel ((e017.trans t35).trans e36) rfl (by decide)) (el_lst (ea_cons ev_c (ea_cons ev_c (ea_cons ev_c (ea_cons ev_c (ea_cons ev_c ea_nil))))) (by show 5 ≤ 100000; decide)) (by decide) (by decide)) fun p6 H37 e37 g37 => ⟨al, mp, p6, h, v, _, rfl, hA, ex_l ((t35.trans e36).trans e37) m17, sq_of g37, by rw [digits_len]; rfl, ⟨d64.1, by omega⟩, oh, ov, lh, l1, lv, fun H38 e38 => q' H38 (e37.trans e38)⟩))) rfl) fun H36 e36 => ?_
  have t36 := t35.trans e36
  refine q_asgL (el_digs (ss := [4, 301, 8]) (cel (e017.trans t36) rfl (by decide)) (el_lst (ea_cons ev_c (ea_cons ev_c (ea_cons ev_c ea_nil))) (by show 3 ≤ 100000; decide)) (by decide) (by decide)) fun fr H37 hfr e37 g37 => ?_
  have t37 := t36.trans e37
  have d71 := digits_at (c := cell ns 7) (ss := [4, 301, 8]) (i := 1) (by decide) (by decide)
  have d72 := digits_at (c := cell ns 7) (ss := [4, 301, 8]) (i := 2) (by decide) (by decide)
  have y71 : at0 [4, 301, 8] 1 = (301 : Int) := rfl
  have y72 : at0 [4, 301, 8] 2 = (8 : Int) := rfl
  have dl : (digits (cell ns 7) [4, 301, 8]).length = 3 := by rw [digits_len]; rfl
  generalize digits (cell ns 7) [4, 301, 8] = dd at g37 d71 d72 dl
  refine q_skip (et_is (et_and (a := decide (V.int (at0 dd 0) = V.int 0)) (b := false) (et_test (ev_op (ev_atI (i := 0) (sq_of g37) (by omega) rfl (ev_var rfl) ev_c) ev_c (rv_eq rfl))) (fun _ => et_is (et_not (a := true) (et_B (ev_c4LE (ev_var rfl) (ev_var rfl) (ev_var rfl) (el_from (n := 1) rfl (ev_var rfl) (sq_of g37)) fun p7 H38 e38 g38 => fun H39 e39 Q' q' _ => ⟨al, r1, fp, p7, fa, fb, dd.drop 1, rfl, hA, R1.mono ((t37.trans e38).trans e39), I1.mono ((t37.trans e38).trans e39), ex_l ((t37.trans e38).trans e39) f17, oa, ob, bp, b60, a60, sq_of (e39 _ _ g38), by rw [List.length_drop, dl], by
    rw [at0_drop]
    show 0 ≤ at0 dd 1 ∧ at0 dd 1 ≤ 300
    exact ⟨d71.1, by have := d71.2; omega⟩, by
    rw [at0_drop]
    show 0 ≤ at0 dd 2 ∧ at0 dd 2 ≤ 7
    exact ⟨d72.1, by have := d72.2; omega⟩, q'⟩))) rfl)) (Bool.and_false _)) fun H38 e38 => ?_
  have t38 := t37.trans e38
  refine s_ret (ev_is (ev_andV (a := true) (b := true) (ev_is (ev_op (rep t38 rfl) (ev_var rfl) (rv_eq rfl)) (by rw [decide_eq_true rfl])) (fun _ => fun H39 e39 Q' q' => run_rndA (h := h) (v := v) (Q := fun x H' => tCons (tVar 1) (tCons (tVar 6) tNil) _ H' fun xs H'' => spHf K C_Round ((x :: xs) ++ []) H'' Q' E0) hA oh ov l1 (by omega) (by omega) (ea_cons (ev_var rfl) (ea_cons (fld 5 rfl (ex_l (t38.trans e39) m17)).1 (ea_cons (fld 5 rfl (ex_l (t38.trans e39) m17)).2 ea_nil))) fun r6 N6 H40 hr6 e40 hN6 hR6 hL6 => ?_)) rfl) fun H39 e39 => q H39
  obtain ⟨R6, I6⟩ := rnd_same hR6 hL6 vty (fun i => congrFun fexv i) bp
  exact (ea_cons (ev_var rfl) (ea_cons (ev_var rfl) ea_nil)) H40 (Ex.refl H40) _ fun H41 e41 => ⟨r6, fp, al, fa, fb, rfl, I6.mono e41, ex_l (((t38.trans e39).trans e40).trans e41) f17, by omega, by omega, fun H42 e42 => q' H42 ((e40.trans e41).trans e42)⟩
end
end Ver
namespace Ver
open PySem PySem.Spec PyProof.Rows L2 Evl
theorem at_mk {K : PySem.W.Frag} {h : Heap} {mg : Str → Option Value} {x : Str} {st : Stmt} {f : Addr} {oc : Value} {od an : Option Addr} {osl : Array (Option Value)} {kV doc pm cdv ct : Value} (X : K.In h) (G : h.Ns mainGlobals mg)
    (a : PySem.W.nsIn K mainGlobals x = some (some (.ref f))) (l : K.lookup f = some ⟨oc, od, .func (PySem.W.fnOf x x (defArgs st) (defBody st) (defScope st) .none kV doc pm an cdv ct), osl⟩) (c : PySem.W.codeIn K cdv x = true) (k : PySem.W.keepIn K (.ref f) = true) : At K mg x st :=
  ⟨⟨f, _, fun_mk l c k, PySem.W.mg_of X G a⟩⟩
theorem all_mk {l : PySem.W.OpenLaw} {w : World} {K : PySem.W.Frag} {h : Heap} {mg : Str → Option Value} {fa : Addr} (X : K.In h) (G : h.Ns mainGlobals mg) (hfa : mg "law" = some (.ref fa))
    {f0 : Addr} {od0 an0 : Option Addr} {sl0 : Array (Option Value)} {oc0 kV0 dc0 pm0 cd0 ct0 : Value}
    {f1 : Addr} {od1 an1 : Option Addr} {sl1 : Array (Option Value)} {oc1 kV1 dc1 pm1 cd1 ct1 : Value}
    {f2 : Addr} {od2 an2 : Option Addr} {sl2 : Array (Option Value)} {oc2 kV2 dc2 pm2 cd2 ct2 : Value}
    {f3 : Addr} {od3 an3 : Option Addr} {sl3 : Array (Option Value)} {oc3 kV3 dc3 pm3 cd3 ct3 : Value}
    {f4 : Addr} {od4 an4 : Option Addr} {sl4 : Array (Option Value)} {oc4 kV4 dc4 pm4 cd4 ct4 : Value}
    {f5 : Addr} {od5 an5 : Option Addr} {sl5 : Array (Option Value)} {oc5 kV5 dc5 pm5 cd5 ct5 : Value}
    {f6 : Addr} {od6 an6 : Option Addr} {sl6 : Array (Option Value)} {oc6 kV6 dc6 pm6 cd6 ct6 : Value}
    {f7 : Addr} {od7 an7 : Option Addr} {sl7 : Array (Option Value)} {oc7 kV7 dc7 pm7 cd7 ct7 : Value}
    {f8 : Addr} {od8 an8 : Option Addr} {sl8 : Array (Option Value)} {oc8 kV8 dc8 pm8 cd8 ct8 : Value}
    {f9 : Addr} {od9 an9 : Option Addr} {sl9 : Array (Option Value)} {oc9 kV9 dc9 pm9 cd9 ct9 : Value}
    {f10 : Addr} {od10 an10 : Option Addr} {sl10 : Array (Option Value)} {oc10 kV10 dc10 pm10 cd10 ct10 : Value}
    {f11 : Addr} {od11 an11 : Option Addr} {sl11 : Array (Option Value)} {oc11 kV11 dc11 pm11 cd11 ct11 : Value}
    {f12 : Addr} {od12 an12 : Option Addr} {sl12 : Array (Option Value)} {oc12 kV12 dc12 pm12 cd12 ct12 : Value}
    {f13 : Addr} {od13 an13 : Option Addr} {sl13 : Array (Option Value)} {oc13 kV13 dc13 pm13 cd13 ct13 : Value}
    {f14 : Addr} {od14 an14 : Option Addr} {sl14 : Array (Option Value)} {oc14 kV14 dc14 pm14 cd14 ct14 : Value}
    {f15 : Addr} {od15 an15 : Option Addr} {sl15 : Array (Option Value)} {oc15 kV15 dc15 pm15 cd15 ct15 : Value}
    {f16 : Addr} {od16 an16 : Option Addr} {sl16 : Array (Option Value)} {oc16 kV16 dc16 pm16 cd16 ct16 : Value}
    {f17 : Addr} {od17 an17 : Option Addr} {sl17 : Array (Option Value)} {oc17 kV17 dc17 pm17 cd17 ct17 : Value}
    {f18 : Addr} {od18 an18 : Option Addr} {sl18 : Array (Option Value)} {oc18 kV18 dc18 pm18 cd18 ct18 : Value}
    {f19 : Addr} {od19 an19 : Option Addr} {sl19 : Array (Option Value)} {oc19 kV19 dc19 pm19 cd19 ct19 : Value}
    {f20 : Addr} {od20 an20 : Option Addr} {sl20 : Array (Option Value)} {oc20 kV20 dc20 pm20 cd20 ct20 : Value}
    {f21 : Addr} {od21 an21 : Option Addr} {sl21 : Array (Option Value)} {oc21 kV21 dc21 pm21 cd21 ct21 : Value}
    {f22 : Addr} {od22 an22 : Option Addr} {sl22 : Array (Option Value)} {oc22 kV22 dc22 pm22 cd22 ct22 : Value}
    {f23 : Addr} {od23 an23 : Option Addr} {sl23 : Array (Option Value)} {oc23 kV23 dc23 pm23 cd23 ct23 : Value}
    {f24 : Addr} {od24 an24 : Option Addr} {sl24 : Array (Option Value)} {oc24 kV24 dc24 pm24 cd24 ct24 : Value}
    {f25 : Addr} {od25 an25 : Option Addr} {sl25 : Array (Option Value)} {oc25 kV25 dc25 pm25 cd25 ct25 : Value}
    {f26 : Addr} {od26 an26 : Option Addr} {sl26 : Array (Option Value)} {oc26 kV26 dc26 pm26 cd26 ct26 : Value}
    {f27 : Addr} {od27 an27 : Option Addr} {sl27 : Array (Option Value)} {oc27 kV27 dc27 pm27 cd27 ct27 : Value}
    {f28 : Addr} {od28 an28 : Option Addr} {sl28 : Array (Option Value)} {oc28 kV28 dc28 pm28 cd28 ct28 : Value}
    {C_Round : Addr}
    {t_LETTERS : Tok}
    {t_MOST_LETTERS : Tok}
    (a0 : PySem.W.nsIn K mainGlobals "is_alphabet" = some (some (.ref f0)))
    (l0 : K.lookup f0 = some ⟨oc0, od0, .func (PySem.W.fnOf "is_alphabet" "is_alphabet" (defArgs s_is_alphabet) (defBody s_is_alphabet) (defScope s_is_alphabet) .none kV0 dc0 pm0 an0 cd0 ct0), sl0⟩)
    (c0 : PySem.W.codeIn K cd0 "is_alphabet" = true) (k0 : PySem.W.keepIn K (.ref f0) = true)
    (a1 : PySem.W.nsIn K mainGlobals "check_alphabet" = some (some (.ref f1)))
    (l1 : K.lookup f1 = some ⟨oc1, od1, .func (PySem.W.fnOf "check_alphabet" "check_alphabet" (defArgs s_check_alphabet) (defBody s_check_alphabet) (defScope s_check_alphabet) .none kV1 dc1 pm1 an1 cd1 ct1), sl1⟩)
    (c1 : PySem.W.codeIn K cd1 "check_alphabet" = true) (k1 : PySem.W.keepIn K (.ref f1) = true)
    (a2 : PySem.W.nsIn K mainGlobals "check_text" = some (some (.ref f2)))
    (l2 : K.lookup f2 = some ⟨oc2, od2, .func (PySem.W.fnOf "check_text" "check_text" (defArgs s_check_text) (defBody s_check_text) (defScope s_check_text) .none kV2 dc2 pm2 an2 cd2 ct2), sl2⟩)
    (c2 : PySem.W.codeIn K cd2 "check_text" = true) (k2 : PySem.W.keepIn K (.ref f2) = true)
    (a3 : PySem.W.nsIn K mainGlobals "turned_letters" = some (some (.ref f3)))
    (l3 : K.lookup f3 = some ⟨oc3, od3, .func (PySem.W.fnOf "turned_letters" "turned_letters" (defArgs s_turned_letters) (defBody s_turned_letters) (defScope s_turned_letters) .none kV3 dc3 pm3 an3 cd3 ct3), sl3⟩)
    (c3 : PySem.W.codeIn K cd3 "turned_letters" = true) (k3 : PySem.W.keepIn K (.ref f3) = true)
    (a4 : PySem.W.nsIn K mainGlobals "_law_whole" = some (some (.ref f4)))
    (l4 : K.lookup f4 = some ⟨oc4, od4, .func (PySem.W.fnOf "_law_whole" "_law_whole" (defArgs s__law_whole) (defBody s__law_whole) (defScope s__law_whole) .none kV4 dc4 pm4 an4 cd4 ct4), sl4⟩)
    (c4 : PySem.W.codeIn K cd4 "_law_whole" = true) (k4 : PySem.W.keepIn K (.ref f4) = true)
    (a5 : PySem.W.nsIn K mainGlobals "_law_cell" = some (some (.ref f5)))
    (l5 : K.lookup f5 = some ⟨oc5, od5, .func (PySem.W.fnOf "_law_cell" "_law_cell" (defArgs s__law_cell) (defBody s__law_cell) (defScope s__law_cell) .none kV5 dc5 pm5 an5 cd5 ct5), sl5⟩)
    (c5 : PySem.W.codeIn K cd5 "_law_cell" = true) (k5 : PySem.W.keepIn K (.ref f5) = true)
    (a6 : PySem.W.nsIn K mainGlobals "_law_digits" = some (some (.ref f6)))
    (l6 : K.lookup f6 = some ⟨oc6, od6, .func (PySem.W.fnOf "_law_digits" "_law_digits" (defArgs s__law_digits) (defBody s__law_digits) (defScope s__law_digits) .none kV6 dc6 pm6 an6 cd6 ct6), sl6⟩)
    (c6 : PySem.W.codeIn K cd6 "_law_digits" = true) (k6 : PySem.W.keepIn K (.ref f6) = true)
    (a7 : PySem.W.nsIn K mainGlobals "_law_alphabet" = some (some (.ref f7)))
    (l7 : K.lookup f7 = some ⟨oc7, od7, .func (PySem.W.fnOf "_law_alphabet" "_law_alphabet" (defArgs s__law_alphabet) (defBody s__law_alphabet) (defScope s__law_alphabet) .none kV7 dc7 pm7 an7 cd7 ct7), sl7⟩)
    (c7 : PySem.W.codeIn K cd7 "_law_alphabet" = true) (k7 : PySem.W.keepIn K (.ref f7) = true)
    (a8 : PySem.W.nsIn K mainGlobals "_law_plain_text" = some (some (.ref f8)))
    (l8 : K.lookup f8 = some ⟨oc8, od8, .func (PySem.W.fnOf "_law_plain_text" "_law_plain_text" (defArgs s__law_plain_text) (defBody s__law_plain_text) (defScope s__law_plain_text) .none kV8 dc8 pm8 an8 cd8 ct8), sl8⟩)
    (c8 : PySem.W.codeIn K cd8 "_law_plain_text" = true) (k8 : PySem.W.keepIn K (.ref f8) = true)
    (a9 : PySem.W.nsIn K mainGlobals "_law_writing" = some (some (.ref f9)))
    (l9 : K.lookup f9 = some ⟨oc9, od9, .func (PySem.W.fnOf "_law_writing" "_law_writing" (defArgs s__law_writing) (defBody s__law_writing) (defScope s__law_writing) .none kV9 dc9 pm9 an9 cd9 ct9), sl9⟩)
    (c9 : PySem.W.codeIn K cd9 "_law_writing" = true) (k9 : PySem.W.keepIn K (.ref f9) = true)
    (a10 : PySem.W.nsIn K mainGlobals "_law_form" = some (some (.ref f10)))
    (l10 : K.lookup f10 = some ⟨oc10, od10, .func (PySem.W.fnOf "_law_form" "_law_form" (defArgs s__law_form) (defBody s__law_form) (defScope s__law_form) .none kV10 dc10 pm10 an10 cd10 ct10), sl10⟩)
    (c10 : PySem.W.codeIn K cd10 "_law_form" = true) (k10 : PySem.W.keepIn K (.ref f10) = true)
    (a11 : PySem.W.nsIn K mainGlobals "_law_giant" = some (some (.ref f11)))
    (l11 : K.lookup f11 = some ⟨oc11, od11, .func (PySem.W.fnOf "_law_giant" "_law_giant" (defArgs s__law_giant) (defBody s__law_giant) (defScope s__law_giant) .none kV11 dc11 pm11 an11 cd11 ct11), sl11⟩)
    (c11 : PySem.W.codeIn K cd11 "_law_giant" = true) (k11 : PySem.W.keepIn K (.ref f11) = true)
    (a12 : PySem.W.nsIn K mainGlobals "_law_beginning" = some (some (.ref f12)))
    (l12 : K.lookup f12 = some ⟨oc12, od12, .func (PySem.W.fnOf "_law_beginning" "_law_beginning" (defArgs s__law_beginning) (defBody s__law_beginning) (defScope s__law_beginning) .none kV12 dc12 pm12 an12 cd12 ct12), sl12⟩)
    (c12 : PySem.W.codeIn K cd12 "_law_beginning" = true) (k12 : PySem.W.keepIn K (.ref f12) = true)
    (a13 : PySem.W.nsIn K mainGlobals "_law_other" = some (some (.ref f13)))
    (l13 : K.lookup f13 = some ⟨oc13, od13, .func (PySem.W.fnOf "_law_other" "_law_other" (defArgs s__law_other) (defBody s__law_other) (defScope s__law_other) .none kV13 dc13 pm13 an13 cd13 ct13), sl13⟩)
    (c13 : PySem.W.codeIn K cd13 "_law_other" = true) (k13 : PySem.W.keepIn K (.ref f13) = true)
    (a14 : PySem.W.nsIn K mainGlobals "_law_near" = some (some (.ref f14)))
    (l14 : K.lookup f14 = some ⟨oc14, od14, .func (PySem.W.fnOf "_law_near" "_law_near" (defArgs s__law_near) (defBody s__law_near) (defScope s__law_near) .none kV14 dc14 pm14 an14 cd14 ct14), sl14⟩)
    (c14 : PySem.W.codeIn K cd14 "_law_near" = true) (k14 : PySem.W.keepIn K (.ref f14) = true)
    (a15 : PySem.W.nsIn K mainGlobals "_law_stranger" = some (some (.ref f15)))
    (l15 : K.lookup f15 = some ⟨oc15, od15, .func (PySem.W.fnOf "_law_stranger" "_law_stranger" (defArgs s__law_stranger) (defBody s__law_stranger) (defScope s__law_stranger) .none kV15 dc15 pm15 an15 cd15 ct15), sl15⟩)
    (c15 : PySem.W.codeIn K cd15 "_law_stranger" = true) (k15 : PySem.W.keepIn K (.ref f15) = true)
    (a16 : PySem.W.nsIn K mainGlobals "_law_alone" = some (some (.ref f16)))
    (l16 : K.lookup f16 = some ⟨oc16, od16, .func (PySem.W.fnOf "_law_alone" "_law_alone" (defArgs s__law_alone) (defBody s__law_alone) (defScope s__law_alone) .none kV16 dc16 pm16 an16 cd16 ct16), sl16⟩)
    (c16 : PySem.W.codeIn K cd16 "_law_alone" = true) (k16 : PySem.W.keepIn K (.ref f16) = true)
    (a17 : PySem.W.nsIn K mainGlobals "_law_refused" = some (some (.ref f17)))
    (l17 : K.lookup f17 = some ⟨oc17, od17, .func (PySem.W.fnOf "_law_refused" "_law_refused" (defArgs s__law_refused) (defBody s__law_refused) (defScope s__law_refused) .none kV17 dc17 pm17 an17 cd17 ct17), sl17⟩)
    (c17 : PySem.W.codeIn K cd17 "_law_refused" = true) (k17 : PySem.W.keepIn K (.ref f17) = true)
    (a18 : PySem.W.nsIn K mainGlobals "_law_refusals" = some (some (.ref f18)))
    (l18 : K.lookup f18 = some ⟨oc18, od18, .func (PySem.W.fnOf "_law_refusals" "_law_refusals" (defArgs s__law_refusals) (defBody s__law_refusals) (defScope s__law_refusals) .none kV18 dc18 pm18 an18 cd18 ct18), sl18⟩)
    (c18 : PySem.W.codeIn K cd18 "_law_refusals" = true) (k18 : PySem.W.keepIn K (.ref f18) = true)
    (a19 : PySem.W.nsIn K mainGlobals "_law_has_form" = some (some (.ref f19)))
    (l19 : K.lookup f19 = some ⟨oc19, od19, .func (PySem.W.fnOf "_law_has_form" "_law_has_form" (defArgs s__law_has_form) (defBody s__law_has_form) (defScope s__law_has_form) .none kV19 dc19 pm19 an19 cd19 ct19), sl19⟩)
    (c19 : PySem.W.codeIn K cd19 "_law_has_form" = true) (k19 : PySem.W.keepIn K (.ref f19) = true)
    (a20 : PySem.W.nsIn K mainGlobals "_law_reads" = some (some (.ref f20)))
    (l20 : K.lookup f20 = some ⟨oc20, od20, .func (PySem.W.fnOf "_law_reads" "_law_reads" (defArgs s__law_reads) (defBody s__law_reads) (defScope s__law_reads) .none kV20 dc20 pm20 an20 cd20 ct20), sl20⟩)
    (c20 : PySem.W.codeIn K cd20 "_law_reads" = true) (k20 : PySem.W.keepIn K (.ref f20) = true)
    (a21 : PySem.W.nsIn K mainGlobals "_law_told" = some (some (.ref f21)))
    (l21 : K.lookup f21 = some ⟨oc21, od21, .func (PySem.W.fnOf "_law_told" "_law_told" (defArgs s__law_told) (defBody s__law_told) (defScope s__law_told) .none kV21 dc21 pm21 an21 cd21 ct21), sl21⟩)
    (c21 : PySem.W.codeIn K cd21 "_law_told" = true) (k21 : PySem.W.keepIn K (.ref f21) = true)
    (a22 : PySem.W.nsIn K mainGlobals "_law_long_right" = some (some (.ref f22)))
    (l22 : K.lookup f22 = some ⟨oc22, od22, .func (PySem.W.fnOf "_law_long_right" "_law_long_right" (defArgs s__law_long_right) (defBody s__law_long_right) (defScope s__law_long_right) .none kV22 dc22 pm22 an22 cd22 ct22), sl22⟩)
    (c22 : PySem.W.codeIn K cd22 "_law_long_right" = true) (k22 : PySem.W.keepIn K (.ref f22) = true)
    (a23 : PySem.W.nsIn K mainGlobals "_law_wider" = some (some (.ref f23)))
    (l23 : K.lookup f23 = some ⟨oc23, od23, .func (PySem.W.fnOf "_law_wider" "_law_wider" (defArgs s__law_wider) (defBody s__law_wider) (defScope s__law_wider) .none kV23 dc23 pm23 an23 cd23 ct23), sl23⟩)
    (c23 : PySem.W.codeIn K cd23 "_law_wider" = true) (k23 : PySem.W.keepIn K (.ref f23) = true)
    (a24 : PySem.W.nsIn K mainGlobals "law" = some (some (.ref f24)))
    (l24 : K.lookup f24 = some ⟨oc24, od24, .func (PySem.W.fnOf "law" "law" (defArgs s_law) (defBody s_law) (defScope s_law) .none kV24 dc24 pm24 an24 cd24 ct24), sl24⟩)
    (c24 : PySem.W.codeIn K cd24 "law" = true) (k24 : PySem.W.keepIn K (.ref f24) = true)
    {C_PressError : Addr}
    {C_BadAlphabet : Addr}
    {C_BadLetter : Addr}
    {C_BadRow : Addr}
    {C_BadTail : Addr}
    {C_BadRank : Addr}
    {C_NotBits : Addr}
    {C_BadIndex : Addr}
    {C_BadStanding : Addr}
    {C_BadRule : Addr}
    {C_AlphabetsDiffer : Addr}
    {C_DoesNotComeBack : Addr}
    {C_TooLarge : Addr}
    {C_NotWritten : Addr}
    {C_NoSuchText : Addr}
    {C_BadName : Addr}
    {C_NameTaken : Addr}
    {C_NoName : Addr}
    {C_EmptyRing : Addr}
    {C_NotInLot : Addr}
    {C_BadBuild : Addr}
    {C_BadGrowth : Addr}
    {C_EmptyText : Addr}
    {C_NothingToUndo : Addr}
    {C_NothingToRedo : Addr}
    {fi_BadAlphabet : Addr} {nm_BadAlphabet q_BadAlphabet : Str} {N_BadAlphabet : Addr} {bs_BadAlphabet bm_BadAlphabet : List Value} {sn_BadAlphabet : List Str} {sub_BadAlphabet : List Value} {ab_BadAlphabet : Bool} {col_BadAlphabet : Option Bool} {dd_BadAlphabet : Option Addr} {m0_BadAlphabet m1_BadAlphabet m2_BadAlphabet m3_BadAlphabet m5_BadAlphabet : Option Value} {ocE_BadAlphabet kVE_BadAlphabet dcE_BadAlphabet pmE_BadAlphabet cdE_BadAlphabet ctE_BadAlphabet : Value} {odE_BadAlphabet anE_BadAlphabet : Option Addr} {slE_BadAlphabet : Array (Option Value)}
    {fi_BadLetter : Addr} {nm_BadLetter q_BadLetter : Str} {N_BadLetter : Addr} {bs_BadLetter bm_BadLetter : List Value} {sn_BadLetter : List Str} {sub_BadLetter : List Value} {ab_BadLetter : Bool} {col_BadLetter : Option Bool} {dd_BadLetter : Option Addr} {m0_BadLetter m1_BadLetter m2_BadLetter m3_BadLetter m5_BadLetter : Option Value} {ocE_BadLetter kVE_BadLetter dcE_BadLetter pmE_BadLetter cdE_BadLetter ctE_BadLetter : Value} {odE_BadLetter anE_BadLetter : Option Addr} {slE_BadLetter : Array (Option Value)}
    (hn_get : PySem.W.specialIn K (.builtin "object.__class__") "__get__" = some (some (.builtin "getset_descriptor.__get__"))) (ht_get : PySem.W.takesIn K (.builtin "object.__class__") = some true)
    (aE_PressError : PySem.W.nsIn K mainGlobals "PressError" = some (some (.ref C_PressError)))
    (aE_BadAlphabet : PySem.W.nsIn K mainGlobals "BadAlphabet" = some (some (.ref C_BadAlphabet)))
    (aE_BadLetter : PySem.W.nsIn K mainGlobals "BadLetter" = some (some (.ref C_BadLetter)))
    (aE_BadRow : PySem.W.nsIn K mainGlobals "BadRow" = some (some (.ref C_BadRow)))
    (aE_BadTail : PySem.W.nsIn K mainGlobals "BadTail" = some (some (.ref C_BadTail)))
    (aE_BadRank : PySem.W.nsIn K mainGlobals "BadRank" = some (some (.ref C_BadRank)))
    (aE_NotBits : PySem.W.nsIn K mainGlobals "NotBits" = some (some (.ref C_NotBits)))
    (aE_BadIndex : PySem.W.nsIn K mainGlobals "BadIndex" = some (some (.ref C_BadIndex)))
    (aE_BadStanding : PySem.W.nsIn K mainGlobals "BadStanding" = some (some (.ref C_BadStanding)))
    (aE_BadRule : PySem.W.nsIn K mainGlobals "BadRule" = some (some (.ref C_BadRule)))
    (aE_AlphabetsDiffer : PySem.W.nsIn K mainGlobals "AlphabetsDiffer" = some (some (.ref C_AlphabetsDiffer)))
    (aE_DoesNotComeBack : PySem.W.nsIn K mainGlobals "DoesNotComeBack" = some (some (.ref C_DoesNotComeBack)))
    (aE_TooLarge : PySem.W.nsIn K mainGlobals "TooLarge" = some (some (.ref C_TooLarge)))
    (aE_NotWritten : PySem.W.nsIn K mainGlobals "NotWritten" = some (some (.ref C_NotWritten)))
    (aE_NoSuchText : PySem.W.nsIn K mainGlobals "NoSuchText" = some (some (.ref C_NoSuchText)))
    (aE_BadName : PySem.W.nsIn K mainGlobals "BadName" = some (some (.ref C_BadName)))
    (aE_NameTaken : PySem.W.nsIn K mainGlobals "NameTaken" = some (some (.ref C_NameTaken)))
    (aE_NoName : PySem.W.nsIn K mainGlobals "NoName" = some (some (.ref C_NoName)))
    (aE_EmptyRing : PySem.W.nsIn K mainGlobals "EmptyRing" = some (some (.ref C_EmptyRing)))
    (aE_NotInLot : PySem.W.nsIn K mainGlobals "NotInLot" = some (some (.ref C_NotInLot)))
    (aE_BadBuild : PySem.W.nsIn K mainGlobals "BadBuild" = some (some (.ref C_BadBuild)))
    (aE_BadGrowth : PySem.W.nsIn K mainGlobals "BadGrowth" = some (some (.ref C_BadGrowth)))
    (aE_EmptyText : PySem.W.nsIn K mainGlobals "EmptyText" = some (some (.ref C_EmptyText)))
    (aE_NothingToUndo : PySem.W.nsIn K mainGlobals "NothingToUndo" = some (some (.ref C_NothingToUndo)))
    (aE_NothingToRedo : PySem.W.nsIn K mainGlobals "NothingToRedo" = some (some (.ref C_NothingToRedo)))
    (ty_BadAlphabet : PySem.W.typeIn K (.ref C_BadAlphabet) = some (.type "type"))
    (kcE_BadAlphabet : PySem.W.keepIn K (.ref C_BadAlphabet) = true)
    (gaE_BadAlphabet : PySem.W.findIn K (.ref C_BadAlphabet) "__getattribute__" = some (some (.builtin "BaseException.__getattribute__")))
    (ggE_BadAlphabet : PySem.W.findIn K (.ref C_BadAlphabet) "__getattr__" = some none)
    (sbE_BadAlphabet : PySem.W.subIn K (.ref C_BadAlphabet) (.type "BaseException") = some true)
    (hdE_BadAlphabet : PySem.W.hasDictIn K C_BadAlphabet = true)
    (caE_BadAlphabet : PySem.W.findIn K (.ref C_BadAlphabet) "__class__" = some (some (.builtin "object.__class__")))
    (mrE_BadAlphabet : PySem.W.mroIn K C_BadAlphabet (.type "object") = some true)
    (xL_BadAlphabet : K.lookup C_BadAlphabet = some (excClassObj nm_BadAlphabet q_BadAlphabet C_BadAlphabet N_BadAlphabet bs_BadAlphabet bm_BadAlphabet true sn_BadAlphabet sub_BadAlphabet ab_BadAlphabet col_BadAlphabet dd_BadAlphabet m0_BadAlphabet m1_BadAlphabet m2_BadAlphabet m3_BadAlphabet m5_BadAlphabet "ValueError.__new__"))
    (hb_BadAlphabet : PySem.HandSPX.refsVE bm_BadAlphabet = true)
    (saE_BadAlphabet : PySem.W.findIn K (.ref C_BadAlphabet) "__setattr__" = some (some (.builtin "object.__setattr__")))
    (iE_BadAlphabet : PySem.W.findIn K (.ref C_BadAlphabet) "__init__" = some (some (.ref fi_BadAlphabet))) (tiE_BadAlphabet : PySem.W.typeIn K (.ref fi_BadAlphabet) = some (.type "function"))
    (lE_BadAlphabet : K.lookup fi_BadAlphabet = some ⟨ocE_BadAlphabet, odE_BadAlphabet, .func (PySem.W.fnOf "__init__" "BadAlphabet.__init__" (defArgs s_BadAlphabet___init__) (defBody s_BadAlphabet___init__) (defScope s_BadAlphabet___init__) .none kVE_BadAlphabet dcE_BadAlphabet pmE_BadAlphabet anE_BadAlphabet cdE_BadAlphabet ctE_BadAlphabet), slE_BadAlphabet⟩) (ccE_BadAlphabet : PySem.W.codeIn K cdE_BadAlphabet "BadAlphabet.__init__" = true) (kpE_BadAlphabet : PySem.W.keepIn K (.ref fi_BadAlphabet) = true)
    (nfE_BadAlphabet_alphabet : PySem.W.findIn K (.ref C_BadAlphabet) "alphabet" = some none)
    (kt_BadAlphabet_PressError : PySem.W.kitOne K (.ref C_BadAlphabet) (.ref C_PressError) = some true)
    (kt_BadAlphabet_BadAlphabet : PySem.W.kitOne K (.ref C_BadAlphabet) (.ref C_BadAlphabet) = some true)
    (kt_BadAlphabet_BadLetter : PySem.W.kitOne K (.ref C_BadAlphabet) (.ref C_BadLetter) = some false)
    (kt_BadAlphabet_BadRow : PySem.W.kitOne K (.ref C_BadAlphabet) (.ref C_BadRow) = some false)
    (kt_BadAlphabet_BadTail : PySem.W.kitOne K (.ref C_BadAlphabet) (.ref C_BadTail) = some false)
    (kt_BadAlphabet_BadRank : PySem.W.kitOne K (.ref C_BadAlphabet) (.ref C_BadRank) = some false)
    (kt_BadAlphabet_NotBits : PySem.W.kitOne K (.ref C_BadAlphabet) (.ref C_NotBits) = some false)
    (kt_BadAlphabet_BadIndex : PySem.W.kitOne K (.ref C_BadAlphabet) (.ref C_BadIndex) = some false)
    (kt_BadAlphabet_BadStanding : PySem.W.kitOne K (.ref C_BadAlphabet) (.ref C_BadStanding) = some false)
    (kt_BadAlphabet_BadRule : PySem.W.kitOne K (.ref C_BadAlphabet) (.ref C_BadRule) = some false)
    (kt_BadAlphabet_AlphabetsDiffer : PySem.W.kitOne K (.ref C_BadAlphabet) (.ref C_AlphabetsDiffer) = some false)
    (kt_BadAlphabet_DoesNotComeBack : PySem.W.kitOne K (.ref C_BadAlphabet) (.ref C_DoesNotComeBack) = some false)
    (kt_BadAlphabet_TooLarge : PySem.W.kitOne K (.ref C_BadAlphabet) (.ref C_TooLarge) = some false)
    (kt_BadAlphabet_NotWritten : PySem.W.kitOne K (.ref C_BadAlphabet) (.ref C_NotWritten) = some false)
    (kt_BadAlphabet_NoSuchText : PySem.W.kitOne K (.ref C_BadAlphabet) (.ref C_NoSuchText) = some false)
    (kt_BadAlphabet_BadName : PySem.W.kitOne K (.ref C_BadAlphabet) (.ref C_BadName) = some false)
    (kt_BadAlphabet_NameTaken : PySem.W.kitOne K (.ref C_BadAlphabet) (.ref C_NameTaken) = some false)
    (kt_BadAlphabet_NoName : PySem.W.kitOne K (.ref C_BadAlphabet) (.ref C_NoName) = some false)
    (kt_BadAlphabet_EmptyRing : PySem.W.kitOne K (.ref C_BadAlphabet) (.ref C_EmptyRing) = some false)
    (kt_BadAlphabet_NotInLot : PySem.W.kitOne K (.ref C_BadAlphabet) (.ref C_NotInLot) = some false)
    (kt_BadAlphabet_BadBuild : PySem.W.kitOne K (.ref C_BadAlphabet) (.ref C_BadBuild) = some false)
    (kt_BadAlphabet_BadGrowth : PySem.W.kitOne K (.ref C_BadAlphabet) (.ref C_BadGrowth) = some false)
    (kt_BadAlphabet_EmptyText : PySem.W.kitOne K (.ref C_BadAlphabet) (.ref C_EmptyText) = some false)
    (kt_BadAlphabet_NothingToUndo : PySem.W.kitOne K (.ref C_BadAlphabet) (.ref C_NothingToUndo) = some false)
    (kt_BadAlphabet_NothingToRedo : PySem.W.kitOne K (.ref C_BadAlphabet) (.ref C_NothingToRedo) = some false)
    (kt_BadAlphabet_VE : PySem.W.kitOne K (.ref C_BadAlphabet) (.type "ValueError") = some true)
    (ex_BadAlphabet_BadAlphabet : PySem.W.exmOne K (.ref C_BadAlphabet) (.ref C_BadAlphabet) = some true)
    (ex_BadAlphabet_BadLetter : PySem.W.exmOne K (.ref C_BadAlphabet) (.ref C_BadLetter) = some false)
    (ex_BadAlphabet_EmptyRing : PySem.W.exmOne K (.ref C_BadAlphabet) (.ref C_EmptyRing) = some false)
    (ty_BadLetter : PySem.W.typeIn K (.ref C_BadLetter) = some (.type "type"))
    (kcE_BadLetter : PySem.W.keepIn K (.ref C_BadLetter) = true)
    (gaE_BadLetter : PySem.W.findIn K (.ref C_BadLetter) "__getattribute__" = some (some (.builtin "BaseException.__getattribute__")))
    (ggE_BadLetter : PySem.W.findIn K (.ref C_BadLetter) "__getattr__" = some none)
    (sbE_BadLetter : PySem.W.subIn K (.ref C_BadLetter) (.type "BaseException") = some true)
    (hdE_BadLetter : PySem.W.hasDictIn K C_BadLetter = true)
    (caE_BadLetter : PySem.W.findIn K (.ref C_BadLetter) "__class__" = some (some (.builtin "object.__class__")))
    (mrE_BadLetter : PySem.W.mroIn K C_BadLetter (.type "object") = some true)
    (xL_BadLetter : K.lookup C_BadLetter = some (excClassObj nm_BadLetter q_BadLetter C_BadLetter N_BadLetter bs_BadLetter bm_BadLetter true sn_BadLetter sub_BadLetter ab_BadLetter col_BadLetter dd_BadLetter m0_BadLetter m1_BadLetter m2_BadLetter m3_BadLetter m5_BadLetter "ValueError.__new__"))
    (hb_BadLetter : PySem.HandSPX.refsVE bm_BadLetter = true)
    (saE_BadLetter : PySem.W.findIn K (.ref C_BadLetter) "__setattr__" = some (some (.builtin "object.__setattr__")))
    (iE_BadLetter : PySem.W.findIn K (.ref C_BadLetter) "__init__" = some (some (.ref fi_BadLetter))) (tiE_BadLetter : PySem.W.typeIn K (.ref fi_BadLetter) = some (.type "function"))
    (lE_BadLetter : K.lookup fi_BadLetter = some ⟨ocE_BadLetter, odE_BadLetter, .func (PySem.W.fnOf "__init__" "BadLetter.__init__" (defArgs s_BadLetter___init__) (defBody s_BadLetter___init__) (defScope s_BadLetter___init__) .none kVE_BadLetter dcE_BadLetter pmE_BadLetter anE_BadLetter cdE_BadLetter ctE_BadLetter), slE_BadLetter⟩) (ccE_BadLetter : PySem.W.codeIn K cdE_BadLetter "BadLetter.__init__" = true) (kpE_BadLetter : PySem.W.keepIn K (.ref fi_BadLetter) = true)
    (nfE_BadLetter_index : PySem.W.findIn K (.ref C_BadLetter) "index" = some none)
    (kt_BadLetter_PressError : PySem.W.kitOne K (.ref C_BadLetter) (.ref C_PressError) = some true)
    (kt_BadLetter_BadAlphabet : PySem.W.kitOne K (.ref C_BadLetter) (.ref C_BadAlphabet) = some false)
    (kt_BadLetter_BadLetter : PySem.W.kitOne K (.ref C_BadLetter) (.ref C_BadLetter) = some true)
    (kt_BadLetter_BadRow : PySem.W.kitOne K (.ref C_BadLetter) (.ref C_BadRow) = some false)
    (kt_BadLetter_BadTail : PySem.W.kitOne K (.ref C_BadLetter) (.ref C_BadTail) = some false)
    (kt_BadLetter_BadRank : PySem.W.kitOne K (.ref C_BadLetter) (.ref C_BadRank) = some false)
    (kt_BadLetter_NotBits : PySem.W.kitOne K (.ref C_BadLetter) (.ref C_NotBits) = some false)
    (kt_BadLetter_BadIndex : PySem.W.kitOne K (.ref C_BadLetter) (.ref C_BadIndex) = some false)
    (kt_BadLetter_BadStanding : PySem.W.kitOne K (.ref C_BadLetter) (.ref C_BadStanding) = some false)
    (kt_BadLetter_BadRule : PySem.W.kitOne K (.ref C_BadLetter) (.ref C_BadRule) = some false)
    (kt_BadLetter_AlphabetsDiffer : PySem.W.kitOne K (.ref C_BadLetter) (.ref C_AlphabetsDiffer) = some false)
    (kt_BadLetter_DoesNotComeBack : PySem.W.kitOne K (.ref C_BadLetter) (.ref C_DoesNotComeBack) = some false)
    (kt_BadLetter_TooLarge : PySem.W.kitOne K (.ref C_BadLetter) (.ref C_TooLarge) = some false)
    (kt_BadLetter_NotWritten : PySem.W.kitOne K (.ref C_BadLetter) (.ref C_NotWritten) = some false)
    (kt_BadLetter_NoSuchText : PySem.W.kitOne K (.ref C_BadLetter) (.ref C_NoSuchText) = some false)
    (kt_BadLetter_BadName : PySem.W.kitOne K (.ref C_BadLetter) (.ref C_BadName) = some false)
    (kt_BadLetter_NameTaken : PySem.W.kitOne K (.ref C_BadLetter) (.ref C_NameTaken) = some false)
    (kt_BadLetter_NoName : PySem.W.kitOne K (.ref C_BadLetter) (.ref C_NoName) = some false)
    (kt_BadLetter_EmptyRing : PySem.W.kitOne K (.ref C_BadLetter) (.ref C_EmptyRing) = some false)
    (kt_BadLetter_NotInLot : PySem.W.kitOne K (.ref C_BadLetter) (.ref C_NotInLot) = some false)
    (kt_BadLetter_BadBuild : PySem.W.kitOne K (.ref C_BadLetter) (.ref C_BadBuild) = some false)
    (kt_BadLetter_BadGrowth : PySem.W.kitOne K (.ref C_BadLetter) (.ref C_BadGrowth) = some false)
    (kt_BadLetter_EmptyText : PySem.W.kitOne K (.ref C_BadLetter) (.ref C_EmptyText) = some false)
    (kt_BadLetter_NothingToUndo : PySem.W.kitOne K (.ref C_BadLetter) (.ref C_NothingToUndo) = some false)
    (kt_BadLetter_NothingToRedo : PySem.W.kitOne K (.ref C_BadLetter) (.ref C_NothingToRedo) = some false)
    (kt_BadLetter_VE : PySem.W.kitOne K (.ref C_BadLetter) (.type "ValueError") = some true)
    (ex_BadLetter_BadAlphabet : PySem.W.exmOne K (.ref C_BadLetter) (.ref C_BadAlphabet) = some false)
    (ex_BadLetter_BadLetter : PySem.W.exmOne K (.ref C_BadLetter) (.ref C_BadLetter) = some true)
    (ex_BadLetter_EmptyRing : PySem.W.exmOne K (.ref C_BadLetter) (.ref C_EmptyRing) = some false)
    (ty_EmptyRing : PySem.W.typeIn K (.ref C_EmptyRing) = some (.type "type"))
    (kcE_EmptyRing : PySem.W.keepIn K (.ref C_EmptyRing) = true)
    (gaE_EmptyRing : PySem.W.findIn K (.ref C_EmptyRing) "__getattribute__" = some (some (.builtin "BaseException.__getattribute__")))
    (ggE_EmptyRing : PySem.W.findIn K (.ref C_EmptyRing) "__getattr__" = some none)
    (sbE_EmptyRing : PySem.W.subIn K (.ref C_EmptyRing) (.type "BaseException") = some true)
    (hdE_EmptyRing : PySem.W.hasDictIn K C_EmptyRing = true)
    (caE_EmptyRing : PySem.W.findIn K (.ref C_EmptyRing) "__class__" = some (some (.builtin "object.__class__")))
    (mrE_EmptyRing : PySem.W.mroIn K C_EmptyRing (.type "object") = some true)
    (qE_EmptyRing : PySem.W.excIn K C_EmptyRing [.type "ValueError", .type "Exception", .type "BaseException", .type "object"] "ValueError.__new__" = true)
    (kt_EmptyRing_PressError : PySem.W.kitOne K (.ref C_EmptyRing) (.ref C_PressError) = some true)
    (kt_EmptyRing_BadAlphabet : PySem.W.kitOne K (.ref C_EmptyRing) (.ref C_BadAlphabet) = some false)
    (kt_EmptyRing_BadLetter : PySem.W.kitOne K (.ref C_EmptyRing) (.ref C_BadLetter) = some false)
    (kt_EmptyRing_BadRow : PySem.W.kitOne K (.ref C_EmptyRing) (.ref C_BadRow) = some false)
    (kt_EmptyRing_BadTail : PySem.W.kitOne K (.ref C_EmptyRing) (.ref C_BadTail) = some false)
    (kt_EmptyRing_BadRank : PySem.W.kitOne K (.ref C_EmptyRing) (.ref C_BadRank) = some false)
    (kt_EmptyRing_NotBits : PySem.W.kitOne K (.ref C_EmptyRing) (.ref C_NotBits) = some false)
    (kt_EmptyRing_BadIndex : PySem.W.kitOne K (.ref C_EmptyRing) (.ref C_BadIndex) = some false)
    (kt_EmptyRing_BadStanding : PySem.W.kitOne K (.ref C_EmptyRing) (.ref C_BadStanding) = some false)
    (kt_EmptyRing_BadRule : PySem.W.kitOne K (.ref C_EmptyRing) (.ref C_BadRule) = some false)
    (kt_EmptyRing_AlphabetsDiffer : PySem.W.kitOne K (.ref C_EmptyRing) (.ref C_AlphabetsDiffer) = some false)
    (kt_EmptyRing_DoesNotComeBack : PySem.W.kitOne K (.ref C_EmptyRing) (.ref C_DoesNotComeBack) = some false)
    (kt_EmptyRing_TooLarge : PySem.W.kitOne K (.ref C_EmptyRing) (.ref C_TooLarge) = some false)
    (kt_EmptyRing_NotWritten : PySem.W.kitOne K (.ref C_EmptyRing) (.ref C_NotWritten) = some false)
    (kt_EmptyRing_NoSuchText : PySem.W.kitOne K (.ref C_EmptyRing) (.ref C_NoSuchText) = some false)
    (kt_EmptyRing_BadName : PySem.W.kitOne K (.ref C_EmptyRing) (.ref C_BadName) = some false)
    (kt_EmptyRing_NameTaken : PySem.W.kitOne K (.ref C_EmptyRing) (.ref C_NameTaken) = some false)
    (kt_EmptyRing_NoName : PySem.W.kitOne K (.ref C_EmptyRing) (.ref C_NoName) = some false)
    (kt_EmptyRing_EmptyRing : PySem.W.kitOne K (.ref C_EmptyRing) (.ref C_EmptyRing) = some true)
    (kt_EmptyRing_NotInLot : PySem.W.kitOne K (.ref C_EmptyRing) (.ref C_NotInLot) = some false)
    (kt_EmptyRing_BadBuild : PySem.W.kitOne K (.ref C_EmptyRing) (.ref C_BadBuild) = some false)
    (kt_EmptyRing_BadGrowth : PySem.W.kitOne K (.ref C_EmptyRing) (.ref C_BadGrowth) = some false)
    (kt_EmptyRing_EmptyText : PySem.W.kitOne K (.ref C_EmptyRing) (.ref C_EmptyText) = some false)
    (kt_EmptyRing_NothingToUndo : PySem.W.kitOne K (.ref C_EmptyRing) (.ref C_NothingToUndo) = some false)
    (kt_EmptyRing_NothingToRedo : PySem.W.kitOne K (.ref C_EmptyRing) (.ref C_NothingToRedo) = some false)
    (kt_EmptyRing_VE : PySem.W.kitOne K (.ref C_EmptyRing) (.type "ValueError") = some true)
    (ex_EmptyRing_BadAlphabet : PySem.W.exmOne K (.ref C_EmptyRing) (.ref C_BadAlphabet) = some false)
    (ex_EmptyRing_BadLetter : PySem.W.exmOne K (.ref C_EmptyRing) (.ref C_BadLetter) = some false)
    (ex_EmptyRing_EmptyRing : PySem.W.exmOne K (.ref C_EmptyRing) (.ref C_EmptyRing) = some true)
    (aC_Round : PySem.W.nsIn K mainGlobals "Round" = some (some (.ref C_Round)))
    (pg_Round : PySem.W.plainGet K C_Round Str.empty = true) (hd_Round : PySem.W.hasDictIn K C_Round = true) (po_Round : PySem.W.plainOver K C_Round = true) (sa_Round : PySem.W.findIn K (.ref C_Round) "__setattr__" = some (some (.builtin "object.__setattr__"))) (mk_Round : PySem.W.makesIn K C_Round = true) (kc_Round : PySem.W.keepIn K (.ref C_Round) = true)
    (n_Round_alphabet : PySem.W.findIn K (.ref C_Round) "alphabet" = some none)
    (n_Round_head : PySem.W.findIn K (.ref C_Round) "head" = some none)
    (n_Round_ring : PySem.W.findIn K (.ref C_Round) "ring" = some none)
    (n_Round_variety : PySem.W.findIn K (.ref C_Round) "variety" = some none)
    (hcQ_Round : PySem.W.findIn K (.ref C_Round) "__class__" = some (some (.builtin "object.__class__"))) (moQ_Round : PySem.W.mroIn K C_Round (.type "object") = some true) (kkQ_Round : PySem.W.kitOne K (.ref C_Round) (.ref C_Round) = some true) (ksQ_Round : PySem.W.kitOne K (.type "str") (.ref C_Round) = some false)
    (a25 : PySem.W.findIn K (.ref C_Round) "__init__" = some (some (.ref f25))) (i25 : PySem.W.isFn K (.ref f25) = true)
    (l25 : K.lookup f25 = some ⟨oc25, od25, .func (PySem.W.fnOf "__init__" "Round.__init__" (defArgs s_Round___init__) (defBody s_Round___init__) (defScope s_Round___init__) .none kV25 dc25 pm25 an25 cd25 ct25), sl25⟩)
    (c25 : PySem.W.codeIn K cd25 "Round.__init__" = true) (k25 : PySem.W.keepIn K (.ref f25) = true)
    (a26 : PySem.W.findIn K (.ref C_Round) "__eq__" = some (some (.ref f26))) (i26 : PySem.W.isFn K (.ref f26) = true)
    (l26 : K.lookup f26 = some ⟨oc26, od26, .func (PySem.W.fnOf "__eq__" "Round.__eq__" (defArgs s_Round___eq__) (defBody s_Round___eq__) (defScope s_Round___eq__) .none kV26 dc26 pm26 an26 cd26 ct26), sl26⟩)
    (c26 : PySem.W.codeIn K cd26 "Round.__eq__" = true) (k26 : PySem.W.keepIn K (.ref f26) = true)
    (a27 : PySem.W.findIn K (.ref C_Round) "letter_of" = some (some (.ref f27))) (i27 : PySem.W.isFn K (.ref f27) = true)
    (l27 : K.lookup f27 = some ⟨oc27, od27, .func (PySem.W.fnOf "letter_of" "Round.letter_of" (defArgs s_Round_letter_of) (defBody s_Round_letter_of) (defScope s_Round_letter_of) .none kV27 dc27 pm27 an27 cd27 ct27), sl27⟩)
    (c27 : PySem.W.codeIn K cd27 "Round.letter_of" = true) (k27 : PySem.W.keepIn K (.ref f27) = true)
    (a28 : PySem.W.findIn K (.ref C_Round) "beginning" = some (some (.ref f28))) (i28 : PySem.W.isFn K (.ref f28) = true)
    (l28 : K.lookup f28 = some ⟨oc28, od28, .func (PySem.W.fnOf "beginning" "Round.beginning" (defArgs s_Round_beginning) (defBody s_Round_beginning) (defScope s_Round_beginning) .none kV28 dc28 pm28 an28 cd28 ct28), sl28⟩)
    (c28 : PySem.W.codeIn K cd28 "Round.beginning" = true) (k28 : PySem.W.keepIn K (.ref f28) = true)
    (z_ValueError : PySem.W.nsIn K mainGlobals "ValueError" = some none)
    (z_all : PySem.W.nsIn K mainGlobals "all" = some none)
    (z_bool : PySem.W.nsIn K mainGlobals "bool" = some none)
    (z_int : PySem.W.nsIn K mainGlobals "int" = some none)
    (z_isinstance : PySem.W.nsIn K mainGlobals "isinstance" = some none)
    (z_len : PySem.W.nsIn K mainGlobals "len" = some none)
    (z_list : PySem.W.nsIn K mainGlobals "list" = some none)
    (z_max : PySem.W.nsIn K mainGlobals "max" = some none)
    (z_min : PySem.W.nsIn K mainGlobals "min" = some none)
    (z_range : PySem.W.nsIn K mainGlobals "range" = some none)
    (z_repr : PySem.W.nsIn K mainGlobals "repr" = some none)
    (z_sorted : PySem.W.nsIn K mainGlobals "sorted" = some none)
    (z_str : PySem.W.nsIn K mainGlobals "str" = some none)
    (z_zip : PySem.W.nsIn K mainGlobals "zip" = some none)
    (g_LETTERS : PySem.W.nsIn K mainGlobals "LETTERS" = some (some (.str (Str.ofString "0123456789abcdefghijklmnopqrstuvwxyz") t_LETTERS)))
    (g_MOST_LETTERS : PySem.W.nsIn K mainGlobals "MOST_LETTERS" = some (some (.int 6 t_MOST_LETTERS)))
    : ∃ fd : FuncData, (∀ (s : Shared) (v : Value), BindsTo s fd ⟨[v], []⟩ [("script", v)]) ∧ ∀ base : Heap, K.In base → base.Ns mainGlobals mg → FnG l.prog w K mg base CX0 8 fa fd ["script"] (spLaw K) := by
  have e := hfa.symm.trans (PySem.W.mg_of X G a24)
  cases e
  have T : Top K mg C_Round := { z_ValueError := PySem.W.mg_none_of X G z_ValueError, z_all := PySem.W.mg_none_of X G z_all, z_bool := PySem.W.mg_none_of X G z_bool, z_int := PySem.W.mg_none_of X G z_int, z_isinstance := PySem.W.mg_none_of X G z_isinstance, z_len := PySem.W.mg_none_of X G z_len, z_list := PySem.W.mg_none_of X G z_list, z_max := PySem.W.mg_none_of X G z_max, z_min := PySem.W.mg_none_of X G z_min, z_range := PySem.W.mg_none_of X G z_range, z_repr := PySem.W.mg_none_of X G z_repr, z_sorted := PySem.W.mg_none_of X G z_sorted, z_str := PySem.W.mg_none_of X G z_str, z_zip := PySem.W.mg_none_of X G z_zip, c_Round := PySem.W.mg_of X G aC_Round, cl_Round := ⟨pg_Round, hd_Round, po_Round, sa_Round⟩, n_Round_alphabet := n_Round_alphabet, n_Round_head := n_Round_head, n_Round_ring := n_Round_ring, n_Round_variety := n_Round_variety, g_LETTERS := ⟨t_LETTERS, PySem.W.mg_of X G g_LETTERS⟩, g_MOST_LETTERS := ⟨t_MOST_LETTERS, PySem.W.mg_of X G g_MOST_LETTERS⟩ }
  have TE : ETop K mg C_PressError C_BadAlphabet C_BadLetter C_BadRow C_BadTail C_BadRank C_NotBits C_BadIndex C_BadStanding C_BadRule C_AlphabetsDiffer C_DoesNotComeBack C_TooLarge C_NotWritten C_NoSuchText C_BadName C_NameTaken C_NoName C_EmptyRing C_NotInLot C_BadBuild C_BadGrowth C_EmptyText C_NothingToUndo C_NothingToRedo := { c_PressError := PySem.W.mg_of X G aE_PressError, c_BadAlphabet := PySem.W.mg_of X G aE_BadAlphabet, c_BadLetter := PySem.W.mg_of X G aE_BadLetter, c_BadRow := PySem.W.mg_of X G aE_BadRow, c_BadTail := PySem.W.mg_of X G aE_BadTail, c_BadRank := PySem.W.mg_of X G aE_BadRank, c_NotBits := PySem.W.mg_of X G aE_NotBits, c_BadIndex := PySem.W.mg_of X G aE_BadIndex, c_BadStanding := PySem.W.mg_of X G aE_BadStanding, c_BadRule := PySem.W.mg_of X G aE_BadRule, c_AlphabetsDiffer := PySem.W.mg_of X G aE_AlphabetsDiffer, c_DoesNotComeBack := PySem.W.mg_of X G aE_DoesNotComeBack, c_TooLarge := PySem.W.mg_of X G aE_TooLarge, c_NotWritten := PySem.W.mg_of X G aE_NotWritten, c_NoSuchText := PySem.W.mg_of X G aE_NoSuchText, c_BadName := PySem.W.mg_of X G aE_BadName, c_NameTaken := PySem.W.mg_of X G aE_NameTaken, c_NoName := PySem.W.mg_of X G aE_NoName, c_EmptyRing := PySem.W.mg_of X G aE_EmptyRing, c_NotInLot := PySem.W.mg_of X G aE_NotInLot, c_BadBuild := PySem.W.mg_of X G aE_BadBuild, c_BadGrowth := PySem.W.mg_of X G aE_BadGrowth, c_EmptyText := PySem.W.mg_of X G aE_EmptyText, c_NothingToUndo := PySem.W.mg_of X G aE_NothingToUndo, c_NothingToRedo := PySem.W.mg_of X G aE_NothingToRedo, nf_BadAlphabet_alphabet := nfE_BadAlphabet_alphabet, kt_BadAlphabet_PressError := kt_BadAlphabet_PressError, kt_BadAlphabet_BadAlphabet := kt_BadAlphabet_BadAlphabet, kt_BadAlphabet_BadLetter := kt_BadAlphabet_BadLetter, kt_BadAlphabet_BadRow := kt_BadAlphabet_BadRow, kt_BadAlphabet_BadTail := kt_BadAlphabet_BadTail, kt_BadAlphabet_BadRank := kt_BadAlphabet_BadRank, kt_BadAlphabet_NotBits := kt_BadAlphabet_NotBits, kt_BadAlphabet_BadIndex := kt_BadAlphabet_BadIndex, kt_BadAlphabet_BadStanding := kt_BadAlphabet_BadStanding, kt_BadAlphabet_BadRule := kt_BadAlphabet_BadRule, kt_BadAlphabet_AlphabetsDiffer := kt_BadAlphabet_AlphabetsDiffer, kt_BadAlphabet_DoesNotComeBack := kt_BadAlphabet_DoesNotComeBack, kt_BadAlphabet_TooLarge := kt_BadAlphabet_TooLarge, kt_BadAlphabet_NotWritten := kt_BadAlphabet_NotWritten, kt_BadAlphabet_NoSuchText := kt_BadAlphabet_NoSuchText, kt_BadAlphabet_BadName := kt_BadAlphabet_BadName, kt_BadAlphabet_NameTaken := kt_BadAlphabet_NameTaken, kt_BadAlphabet_NoName := kt_BadAlphabet_NoName, kt_BadAlphabet_EmptyRing := kt_BadAlphabet_EmptyRing, kt_BadAlphabet_NotInLot := kt_BadAlphabet_NotInLot, kt_BadAlphabet_BadBuild := kt_BadAlphabet_BadBuild, kt_BadAlphabet_BadGrowth := kt_BadAlphabet_BadGrowth, kt_BadAlphabet_EmptyText := kt_BadAlphabet_EmptyText, kt_BadAlphabet_NothingToUndo := kt_BadAlphabet_NothingToUndo, kt_BadAlphabet_NothingToRedo := kt_BadAlphabet_NothingToRedo, kt_BadAlphabet_VE := kt_BadAlphabet_VE, ex_BadAlphabet_BadAlphabet := ex_BadAlphabet_BadAlphabet, ex_BadAlphabet_BadLetter := ex_BadAlphabet_BadLetter, ex_BadAlphabet_EmptyRing := ex_BadAlphabet_EmptyRing, nf_BadLetter_index := nfE_BadLetter_index, kt_BadLetter_PressError := kt_BadLetter_PressError, kt_BadLetter_BadAlphabet := kt_BadLetter_BadAlphabet, kt_BadLetter_BadLetter := kt_BadLetter_BadLetter, kt_BadLetter_BadRow := kt_BadLetter_BadRow, kt_BadLetter_BadTail := kt_BadLetter_BadTail, kt_BadLetter_BadRank := kt_BadLetter_BadRank, kt_BadLetter_NotBits := kt_BadLetter_NotBits, kt_BadLetter_BadIndex := kt_BadLetter_BadIndex, kt_BadLetter_BadStanding := kt_BadLetter_BadStanding, kt_BadLetter_BadRule := kt_BadLetter_BadRule, kt_BadLetter_AlphabetsDiffer := kt_BadLetter_AlphabetsDiffer, kt_BadLetter_DoesNotComeBack := kt_BadLetter_DoesNotComeBack, kt_BadLetter_TooLarge := kt_BadLetter_TooLarge, kt_BadLetter_NotWritten := kt_BadLetter_NotWritten, kt_BadLetter_NoSuchText := kt_BadLetter_NoSuchText, kt_BadLetter_BadName := kt_BadLetter_BadName, kt_BadLetter_NameTaken := kt_BadLetter_NameTaken, kt_BadLetter_NoName := kt_BadLetter_NoName, kt_BadLetter_EmptyRing := kt_BadLetter_EmptyRing, kt_BadLetter_NotInLot := kt_BadLetter_NotInLot, kt_BadLetter_BadBuild := kt_BadLetter_BadBuild, kt_BadLetter_BadGrowth := kt_BadLetter_BadGrowth, kt_BadLetter_EmptyText := kt_BadLetter_EmptyText, kt_BadLetter_NothingToUndo := kt_BadLetter_NothingToUndo, kt_BadLetter_NothingToRedo := kt_BadLetter_NothingToRedo, kt_BadLetter_VE := kt_BadLetter_VE, ex_BadLetter_BadAlphabet := ex_BadLetter_BadAlphabet, ex_BadLetter_BadLetter := ex_BadLetter_BadLetter, ex_BadLetter_EmptyRing := ex_BadLetter_EmptyRing, kt_EmptyRing_PressError := kt_EmptyRing_PressError, kt_EmptyRing_BadAlphabet := kt_EmptyRing_BadAlphabet, kt_EmptyRing_BadLetter := kt_EmptyRing_BadLetter, kt_EmptyRing_BadRow := kt_EmptyRing_BadRow, kt_EmptyRing_BadTail := kt_EmptyRing_BadTail, kt_EmptyRing_BadRank := kt_EmptyRing_BadRank, kt_EmptyRing_NotBits := kt_EmptyRing_NotBits, kt_EmptyRing_BadIndex := kt_EmptyRing_BadIndex, kt_EmptyRing_BadStanding := kt_EmptyRing_BadStanding, kt_EmptyRing_BadRule := kt_EmptyRing_BadRule, kt_EmptyRing_AlphabetsDiffer := kt_EmptyRing_AlphabetsDiffer, kt_EmptyRing_DoesNotComeBack := kt_EmptyRing_DoesNotComeBack, kt_EmptyRing_TooLarge := kt_EmptyRing_TooLarge, kt_EmptyRing_NotWritten := kt_EmptyRing_NotWritten, kt_EmptyRing_NoSuchText := kt_EmptyRing_NoSuchText, kt_EmptyRing_BadName := kt_EmptyRing_BadName, kt_EmptyRing_NameTaken := kt_EmptyRing_NameTaken, kt_EmptyRing_NoName := kt_EmptyRing_NoName, kt_EmptyRing_EmptyRing := kt_EmptyRing_EmptyRing, kt_EmptyRing_NotInLot := kt_EmptyRing_NotInLot, kt_EmptyRing_BadBuild := kt_EmptyRing_BadBuild, kt_EmptyRing_BadGrowth := kt_EmptyRing_BadGrowth, kt_EmptyRing_EmptyText := kt_EmptyRing_EmptyText, kt_EmptyRing_NothingToUndo := kt_EmptyRing_NothingToUndo, kt_EmptyRing_NothingToRedo := kt_EmptyRing_NothingToRedo, kt_EmptyRing_VE := kt_EmptyRing_VE, ex_EmptyRing_BadAlphabet := ex_EmptyRing_BadAlphabet, ex_EmptyRing_BadLetter := ex_EmptyRing_BadLetter, ex_EmptyRing_EmptyRing := ex_EmptyRing_EmptyRing }
  have xc_BadAlphabet : ExcC K C_BadAlphabet := ⟨gaE_BadAlphabet, ggE_BadAlphabet, sbE_BadAlphabet, hdE_BadAlphabet, caE_BadAlphabet, hn_get, ht_get, mrE_BadAlphabet⟩
  have oe_BadAlphabet : OexC K C_BadAlphabet := ⟨⟨_, _, _, _, _, _, _, _, _, _, _, _, _, _, _, xL_BadAlphabet, hb_BadAlphabet⟩, saE_BadAlphabet, sbE_BadAlphabet, ty_BadAlphabet, kcE_BadAlphabet⟩
  have FI_BadAlphabet := fun_mk (st := s_BadAlphabet___init__) lE_BadAlphabet ccE_BadAlphabet kpE_BadAlphabet
  have GE_BadAlphabet : ∀ base : Heap, Er_BadAlphabet l.prog w K mg base C_BadAlphabet := fun base => ⟨oe_BadAlphabet, PySem.W.mg_of X G aE_BadAlphabet, ⟨gaE_BadAlphabet, ggE_BadAlphabet, sbE_BadAlphabet, hdE_BadAlphabet⟩, xc_BadAlphabet, fi_BadAlphabet, _, iE_BadAlphabet, tiE_BadAlphabet, he_BadAlphabet FI_BadAlphabet oe_BadAlphabet nfE_BadAlphabet_alphabet, FI_BadAlphabet.binds fun _ _ _ _ _ _ us hl => match us, hl with | [_, _], _ => rfl⟩
  have xc_BadLetter : ExcC K C_BadLetter := ⟨gaE_BadLetter, ggE_BadLetter, sbE_BadLetter, hdE_BadLetter, caE_BadLetter, hn_get, ht_get, mrE_BadLetter⟩
  have oe_BadLetter : OexC K C_BadLetter := ⟨⟨_, _, _, _, _, _, _, _, _, _, _, _, _, _, _, xL_BadLetter, hb_BadLetter⟩, saE_BadLetter, sbE_BadLetter, ty_BadLetter, kcE_BadLetter⟩
  have FI_BadLetter := fun_mk (st := s_BadLetter___init__) lE_BadLetter ccE_BadLetter kpE_BadLetter
  have GE_BadLetter : ∀ base : Heap, Er_BadLetter l.prog w K mg base C_BadLetter := fun base => ⟨oe_BadLetter, PySem.W.mg_of X G aE_BadLetter, ⟨gaE_BadLetter, ggE_BadLetter, sbE_BadLetter, hdE_BadLetter⟩, xc_BadLetter, fi_BadLetter, _, iE_BadLetter, tiE_BadLetter, he_BadLetter FI_BadLetter oe_BadLetter nfE_BadLetter_index, FI_BadLetter.binds fun _ _ _ _ _ _ us hl => match us, hl with | [_, _], _ => rfl⟩
  have xc_EmptyRing : ExcC K C_EmptyRing := ⟨gaE_EmptyRing, ggE_EmptyRing, sbE_EmptyRing, hdE_EmptyRing, caE_EmptyRing, hn_get, ht_get, mrE_EmptyRing⟩
  have GO_EmptyRing : ErrO K mg "EmptyRing" C_EmptyRing := ⟨PySem.W.mg_of X G aE_EmptyRing, qE_EmptyRing, kcE_EmptyRing, ty_EmptyRing, xc_EmptyRing⟩
  have EQ_Round : EqC K C_Round := ⟨hcQ_Round, hn_get, ht_get, moQ_Round, kkQ_Round, ksQ_Round⟩
  have A_is_alphabet := at_mk (st := s_is_alphabet) X G a0 l0 c0 k0
  have A_check_alphabet := at_mk (st := s_check_alphabet) X G a1 l1 c1 k1
  have A_check_text := at_mk (st := s_check_text) X G a2 l2 c2 k2
  have A_turned_letters := at_mk (st := s_turned_letters) X G a3 l3 c3 k3
  have A__law_whole := at_mk (st := s__law_whole) X G a4 l4 c4 k4
  have A__law_cell := at_mk (st := s__law_cell) X G a5 l5 c5 k5
  have A__law_digits := at_mk (st := s__law_digits) X G a6 l6 c6 k6
  have A__law_alphabet := at_mk (st := s__law_alphabet) X G a7 l7 c7 k7
  have A__law_plain_text := at_mk (st := s__law_plain_text) X G a8 l8 c8 k8
  have A__law_writing := at_mk (st := s__law_writing) X G a9 l9 c9 k9
  have A__law_form := at_mk (st := s__law_form) X G a10 l10 c10 k10
  have A__law_giant := at_mk (st := s__law_giant) X G a11 l11 c11 k11
  have A__law_beginning := at_mk (st := s__law_beginning) X G a12 l12 c12 k12
  have A__law_other := at_mk (st := s__law_other) X G a13 l13 c13 k13
  have A__law_near := at_mk (st := s__law_near) X G a14 l14 c14 k14
  have A__law_stranger := at_mk (st := s__law_stranger) X G a15 l15 c15 k15
  have A__law_alone := at_mk (st := s__law_alone) X G a16 l16 c16 k16
  have A__law_refused := at_mk (st := s__law_refused) X G a17 l17 c17 k17
  have A__law_refusals := at_mk (st := s__law_refusals) X G a18 l18 c18 k18
  have A__law_has_form := at_mk (st := s__law_has_form) X G a19 l19 c19 k19
  have A__law_reads := at_mk (st := s__law_reads) X G a20 l20 c20 k20
  have A__law_told := at_mk (st := s__law_told) X G a21 l21 c21 k21
  have A__law_long_right := at_mk (st := s__law_long_right) X G a22 l22 c22 k22
  have A__law_wider := at_mk (st := s__law_wider) X G a23 l23 c23 k23
  have A_Round___init__ : AtI K C_Round "Round.__init__" s_Round___init__ := ⟨⟨f25, _, fun_mk l25 c25 k25, ⟨mk_Round, a25, i25, kc_Round⟩⟩⟩
  have A_Round___eq__ : AtM K C_Round "__eq__" "Round.__eq__" s_Round___eq__ := ⟨⟨f26, _, fun_mk l26 c26 k26, ⟨a26, i26, k26⟩⟩⟩
  have A_Round_letter_of : AtM K C_Round "letter_of" "Round.letter_of" s_Round_letter_of := ⟨⟨f27, _, fun_mk l27 c27 k27, ⟨a27, i27, k27⟩⟩⟩
  have A_Round_beginning : AtM K C_Round "beginning" "Round.beginning" s_Round_beginning := ⟨⟨f28, _, fun_mk l28 c28 k28, ⟨a28, i28, k28⟩⟩⟩
  refine ⟨PySem.W.fnOf "law" "law" (defArgs s_law) (defBody s_law) (defScope s_law) .none kV24 dc24 pm24 an24 cd24 ct24, fun s v => .of_eq rfl, fun base _ _ => ?_⟩
  have h_isal := has_isal (P := l.prog) (w := w) (base := base) A_is_alphabet T
  have h_isalB := has_isalB (P := l.prog) (w := w) (base := base) A_is_alphabet T
  have h_ckal := has_ckal A_check_alphabet T h_isal
  have h_cktx := has_cktx (P := l.prog) (w := w) (base := base) A_check_text T
  have h_ckalB := has_ckalB A_check_alphabet T (GE_BadAlphabet base) h_isalB
  have h_cktxB := has_cktxB A_check_text T (GE_BadLetter base)
  have h_ckal2 := has_both h_ckal h_ckalB (by decide)
  have h_cktx2 := has_both h_cktx h_cktxB (by decide)
  have h_tur := has_tur (P := l.prog) (w := w) (base := base) A_turned_letters T
  have h_rnd := has_rnd A_Round___init__ T h_ckal h_cktx h_tur
  have h_rndK := has_rndK A_Round___init__ T h_ckal h_cktx h_tur
  have h_rndX := has_rndX A_Round___init__ T GO_EmptyRing h_ckal h_cktx h_ckal2 h_cktx2 h_tur
  have h_let := has_let (P := l.prog) (w := w) (mg := mg) (base := base) A_Round_letter_of T
  have h_letK := has_letK (P := l.prog) (w := w) (mg := mg) (base := base) A_Round_letter_of T
  have h_beg := has_beg (P := l.prog) (w := w) (mg := mg) (base := base) A_Round_beginning T
  have h_begK := has_begK (P := l.prog) (w := w) (mg := mg) (base := base) A_Round_beginning T
  have h_req := has_req (P := l.prog) (w := w) (mg := mg) (base := base) A_Round___eq__ T EQ_Round
  have h_lwhole := has_lwhole (P := l.prog) (w := w) (base := base) A__law_whole T
  have h_cell := has_cell (P := l.prog) (w := w) (base := base) A__law_cell T
  have h_digits := has_digits (P := l.prog) (w := w) (base := base) A__law_digits T
  have h_signs := has_signs (P := l.prog) (w := w) (base := base) A__law_alphabet T
  have h_fw := has_fw (P := l.prog) (w := w) (base := base) A__law_plain_text T
  have h_wri := has_wri A__law_writing T h_fw
  have h_form := has_form (P := l.prog) (w := w) (base := base) A__law_form T
  have h_gi := has_gi (P := l.prog) (w := w) (base := base) A__law_giant T
  have h_lb := has_lb (P := l.prog) (w := w) (base := base) A__law_beginning T
  have h_oth := has_oth (P := l.prog) (w := w) (base := base) A__law_other T
  have h_near := has_near (P := l.prog) (w := w) (base := base) A__law_near T
  have h_str := has_str (P := l.prog) (w := w) (base := base) A__law_stranger T
  have h_wid := has_wid (P := l.prog) (w := w) (base := base) A__law_wider T
  have h_told := has_told (P := l.prog) (w := w) (base := base) A__law_told T
  have h_hf := has_hf A__law_has_form T h_lwhole
  have h_reads := has_reads A__law_reads T h_let h_beg h_lb
  have h_lg := has_lg A__law_long_right T h_beg h_rnd h_hf h_told h_req h_reads
  have hp_whole := hp_lwhole (P := l.prog) (w := w) (base := base) A__law_whole T
  have hp_al := hp_alone (P := l.prog) (w := w) (base := base) A__law_alone T TE xc_EmptyRing
  have h_al := has_alone (P := l.prog) (w := w) (base := base) A__law_alone T TE xc_EmptyRing
  have h_ref := has_ref A__law_refused T TE (GE_BadAlphabet base) (GE_BadLetter base) GO_EmptyRing h_rndX hp_whole hp_al
  have h_rfs := has_rfs A__law_refusals T GO_EmptyRing h_str h_al h_ref
  exact ok_law (fun_mk (st := s_law) l24 c24 k24) T h_digits h_cell h_signs h_wri h_form h_oth h_near h_wid h_rndK h_hf h_lb h_told h_req h_gi h_reads h_begK h_letK h_rfs h_lg
theorem walk {l : PySem.W.OpenLaw} {q : Program} {loose : List Str} {XP : (Str → Option Value) → Heap → Prop} {YP : World → Heap → Prop} {d : DefRec} {K : Params → PySem.W.Frag} (hn : l.most = some 63) (hdf : d.params.defaults = [])
    (hY : ∀ (w : World) (h : Heap), YP w h → (K w.params).In h)
    (F : ∀ (w : World) (mg : Str → Option Value) (fa : Addr) (h : Heap), (K w.params).In h → h.Ns mainGlobals mg → mg d.name = some (.ref fa) →
      ∃ fd : FuncData, (∀ (s : Shared) (u : Value), BindsTo s fd ⟨[u], []⟩ [("script", u)]) ∧ ∀ base : Heap, (K w.params).In base → base.Ns mainGlobals mg → FnG l.prog w (K w.params) mg base CX0 8 fa fd ["script"] (spLaw (K w.params))) :
    PySem.W.WalkO q loose XP YP l.row.toRowW d [] (fun f vs => PySem.call f vs) :=
  walkG (n := 63) (k := 8) (x := "script") (sp := fun w => spLaw (K w.params)) hn (by decide) hdf ⟨rfl, by decide, by decide⟩ hY F (fun _ _ a ns hl _ hS => ⟨a, ns, rfl, hS, hl, fun _ => rfl⟩)
end Ver
open PySem PySem.W PyProof.Rows
set_option maxRecDepth 100000 in
set_option maxHeartbeats 0 in
theorem PySem.Challenge.cw_outpressed_k24_round_least_form_holds : PySem.Challenge.rw_outpressed_k24_round_least_form.Holds := by
  w_on; o_law; k_head; (case hw => w_witness2)
  k_fill
  refine Ver.walk (l := PySem.Challenge.rw_outpressed_k24_round_least_form) rfl rfl (fun w h Y => PySem.W.kIn_of Y) ?F
  case F =>
    intro w mg fa h KX G hmg
    refine' Ver.all_mk KX G hmg ?a0 ?l0 ?c0 ?k0 ?a1 ?l1 ?c1 ?k1 ?a2 ?l2 ?c2 ?k2 ?a3 ?l3 ?c3 ?k3 ?a4 ?l4 ?c4 ?k4 ?a5 ?l5 ?c5 ?k5 ?a6 ?l6 ?c6 ?k6 ?a7 ?l7 ?c7 ?k7 ?a8 ?l8 ?c8 ?k8 ?a9 ?l9 ?c9 ?k9 ?a10 ?l10 ?c10 ?k10 ?a11 ?l11 ?c11 ?k11 ?a12 ?l12 ?c12 ?k12 ?a13 ?l13 ?c13 ?k13 ?a14 ?l14 ?c14 ?k14 ?a15 ?l15 ?c15 ?k15 ?a16 ?l16 ?c16 ?k16 ?a17 ?l17 ?c17 ?k17 ?a18 ?l18 ?c18 ?k18 ?a19 ?l19 ?c19 ?k19 ?a20 ?l20 ?c20 ?k20 ?a21 ?l21 ?c21 ?k21 ?a22 ?l22 ?c22 ?k22 ?a23 ?l23 ?c23 ?k23 ?a24 ?l24 ?c24 ?k24 ?hn_get ?ht_get ?aE_PressError ?aE_BadAlphabet ?aE_BadLetter ?aE_BadRow ?aE_BadTail ?aE_BadRank ?aE_NotBits ?aE_BadIndex ?aE_BadStanding ?aE_BadRule ?aE_AlphabetsDiffer ?aE_DoesNotComeBack ?aE_TooLarge ?aE_NotWritten ?aE_NoSuchText ?aE_BadName ?aE_NameTaken ?aE_NoName ?aE_EmptyRing ?aE_NotInLot ?aE_BadBuild ?aE_BadGrowth ?aE_EmptyText ?aE_NothingToUndo ?aE_NothingToRedo ?ty_BadAlphabet ?kcE_BadAlphabet ?gaE_BadAlphabet ?ggE_BadAlphabet ?sbE_BadAlphabet ?hdE_BadAlphabet ?caE_BadAlphabet ?mrE_BadAlphabet ?xL_BadAlphabet ?hb_BadAlphabet ?saE_BadAlphabet ?iE_BadAlphabet ?tiE_BadAlphabet ?lE_BadAlphabet ?ccE_BadAlphabet ?kpE_BadAlphabet ?nfE_BadAlphabet_alphabet ?kt_BadAlphabet_PressError ?kt_BadAlphabet_BadAlphabet ?kt_BadAlphabet_BadLetter ?kt_BadAlphabet_BadRow ?kt_BadAlphabet_BadTail ?kt_BadAlphabet_BadRank ?kt_BadAlphabet_NotBits ?kt_BadAlphabet_BadIndex ?kt_BadAlphabet_BadStanding ?kt_BadAlphabet_BadRule ?kt_BadAlphabet_AlphabetsDiffer ?kt_BadAlphabet_DoesNotComeBack ?kt_BadAlphabet_TooLarge ?kt_BadAlphabet_NotWritten ?kt_BadAlphabet_NoSuchText ?kt_BadAlphabet_BadName ?kt_BadAlphabet_NameTaken ?kt_BadAlphabet_NoName ?kt_BadAlphabet_EmptyRing ?kt_BadAlphabet_NotInLot ?kt_BadAlphabet_BadBuild ?kt_BadAlphabet_BadGrowth ?kt_BadAlphabet_EmptyText ?kt_BadAlphabet_NothingToUndo ?kt_BadAlphabet_NothingToRedo ?kt_BadAlphabet_VE ?ex_BadAlphabet_BadAlphabet ?ex_BadAlphabet_BadLetter ?ex_BadAlphabet_EmptyRing ?ty_BadLetter ?kcE_BadLetter ?gaE_BadLetter ?ggE_BadLetter ?sbE_BadLetter ?hdE_BadLetter ?caE_BadLetter ?mrE_BadLetter ?xL_BadLetter ?hb_BadLetter ?saE_BadLetter ?iE_BadLetter ?tiE_BadLetter ?lE_BadLetter ?ccE_BadLetter ?kpE_BadLetter ?nfE_BadLetter_index ?kt_BadLetter_PressError ?kt_BadLetter_BadAlphabet ?kt_BadLetter_BadLetter ?kt_BadLetter_BadRow ?kt_BadLetter_BadTail ?kt_BadLetter_BadRank ?kt_BadLetter_NotBits ?kt_BadLetter_BadIndex ?kt_BadLetter_BadStanding ?kt_BadLetter_BadRule ?kt_BadLetter_AlphabetsDiffer ?kt_BadLetter_DoesNotComeBack ?kt_BadLetter_TooLarge ?kt_BadLetter_NotWritten ?kt_BadLetter_NoSuchText ?kt_BadLetter_BadName ?kt_BadLetter_NameTaken ?kt_BadLetter_NoName ?kt_BadLetter_EmptyRing ?kt_BadLetter_NotInLot ?kt_BadLetter_BadBuild ?kt_BadLetter_BadGrowth ?kt_BadLetter_EmptyText ?kt_BadLetter_NothingToUndo ?kt_BadLetter_NothingToRedo ?kt_BadLetter_VE ?ex_BadLetter_BadAlphabet ?ex_BadLetter_BadLetter ?ex_BadLetter_EmptyRing ?ty_EmptyRing ?kcE_EmptyRing ?gaE_EmptyRing ?ggE_EmptyRing ?sbE_EmptyRing ?hdE_EmptyRing ?caE_EmptyRing ?mrE_EmptyRing ?qE_EmptyRing ?kt_EmptyRing_PressError ?kt_EmptyRing_BadAlphabet ?kt_EmptyRing_BadLetter ?kt_EmptyRing_BadRow ?kt_EmptyRing_BadTail ?kt_EmptyRing_BadRank ?kt_EmptyRing_NotBits ?kt_EmptyRing_BadIndex ?kt_EmptyRing_BadStanding ?kt_EmptyRing_BadRule ?kt_EmptyRing_AlphabetsDiffer ?kt_EmptyRing_DoesNotComeBack ?kt_EmptyRing_TooLarge ?kt_EmptyRing_NotWritten ?kt_EmptyRing_NoSuchText ?kt_EmptyRing_BadName ?kt_EmptyRing_NameTaken ?kt_EmptyRing_NoName ?kt_EmptyRing_EmptyRing ?kt_EmptyRing_NotInLot ?kt_EmptyRing_BadBuild ?kt_EmptyRing_BadGrowth ?kt_EmptyRing_EmptyText ?kt_EmptyRing_NothingToUndo ?kt_EmptyRing_NothingToRedo ?kt_EmptyRing_VE ?ex_EmptyRing_BadAlphabet ?ex_EmptyRing_BadLetter ?ex_EmptyRing_EmptyRing ?aC_Round ?pg_Round ?hd_Round ?po_Round ?sa_Round ?mk_Round ?kc_Round ?n_Round_alphabet ?n_Round_head ?n_Round_ring ?n_Round_variety ?hcQ_Round ?moQ_Round ?kkQ_Round ?ksQ_Round ?a25 ?i25 ?l25 ?c25 ?k25 ?a26 ?i26 ?l26 ?c26 ?k26 ?a27 ?i27 ?l27 ?c27 ?k27 ?a28 ?i28 ?l28 ?c28 ?k28 ?z_ValueError ?z_all ?z_bool ?z_int ?z_isinstance ?z_len ?z_list ?z_max ?z_min ?z_range ?z_repr ?z_sorted ?z_str ?z_zip ?g_LETTERS ?g_MOST_LETTERS
    (case a0 => k_is)
    (case l0 => k_is)
    (case c0 => k_is)
    (case k0 => k_is)
    (case a1 => k_is)
    (case l1 => k_is)
    (case c1 => k_is)
    (case k1 => k_is)
    (case a2 => k_is)
    (case l2 => k_is)
    (case c2 => k_is)
    (case k2 => k_is)
    (case a3 => k_is)
    (case l3 => k_is)
    (case c3 => k_is)
    (case k3 => k_is)
    (case a4 => k_is)
    (case l4 => k_is)
    (case c4 => k_is)
    (case k4 => k_is)
    (case a5 => k_is)
    (case l5 => k_is)
    (case c5 => k_is)
    (case k5 => k_is)
    (case a6 => k_is)
    (case l6 => k_is)
    (case c6 => k_is)
    (case k6 => k_is)
    (case a7 => k_is)
    (case l7 => k_is)
    (case c7 => k_is)
    (case k7 => k_is)
    (case a8 => k_is)
    (case l8 => k_is)
    (case c8 => k_is)
    (case k8 => k_is)
    (case a9 => k_is)
    (case l9 => k_is)
    (case c9 => k_is)
    (case k9 => k_is)
    (case a10 => k_is)
    (case l10 => k_is)
    (case c10 => k_is)
    (case k10 => k_is)
    (case a11 => k_is)
    (case l11 => k_is)
    (case c11 => k_is)
    (case k11 => k_is)
    (case a12 => k_is)
    (case l12 => k_is)
    (case c12 => k_is)
    (case k12 => k_is)
    (case a13 => k_is)
    (case l13 => k_is)
    (case c13 => k_is)
    (case k13 => k_is)
    (case a14 => k_is)
    (case l14 => k_is)
    (case c14 => k_is)
    (case k14 => k_is)
    (case a15 => k_is)
    (case l15 => k_is)
    (case c15 => k_is)
    (case k15 => k_is)
    (case a16 => k_is)
    (case l16 => k_is)
    (case c16 => k_is)
    (case k16 => k_is)
    (case a17 => k_is)
    (case l17 => k_is)
    (case c17 => k_is)
    (case k17 => k_is)
    (case a18 => k_is)
    (case l18 => k_is)
    (case c18 => k_is)
    (case k18 => k_is)
    (case a19 => k_is)
    (case l19 => k_is)
    (case c19 => k_is)
    (case k19 => k_is)
    (case a20 => k_is)
    (case l20 => k_is)
    (case c20 => k_is)
    (case k20 => k_is)
    (case a21 => k_is)
    (case l21 => k_is)
    (case c21 => k_is)
    (case k21 => k_is)
    (case a22 => k_is)
    (case l22 => k_is)
    (case c22 => k_is)
    (case k22 => k_is)
    (case a23 => k_is)
    (case l23 => k_is)
    (case c23 => k_is)
    (case k23 => k_is)
    (case a24 => k_is)
    (case l24 => k_is)
    (case c24 => k_is)
    (case k24 => k_is)
    (case hn_get => k_is)
    (case ht_get => k_is)
    (case aE_PressError => k_is)
    (case aE_BadAlphabet => k_is)
    (case aE_BadLetter => k_is)
    (case aE_BadRow => k_is)
    (case aE_BadTail => k_is)
    (case aE_BadRank => k_is)
    (case aE_NotBits => k_is)
    (case aE_BadIndex => k_is)
    (case aE_BadStanding => k_is)
    (case aE_BadRule => k_is)
    (case aE_AlphabetsDiffer => k_is)
    (case aE_DoesNotComeBack => k_is)
    (case aE_TooLarge => k_is)
    (case aE_NotWritten => k_is)
    (case aE_NoSuchText => k_is)
    (case aE_BadName => k_is)
    (case aE_NameTaken => k_is)
    (case aE_NoName => k_is)
    (case aE_EmptyRing => k_is)
    (case aE_NotInLot => k_is)
    (case aE_BadBuild => k_is)
    (case aE_BadGrowth => k_is)
    (case aE_EmptyText => k_is)
    (case aE_NothingToUndo => k_is)
    (case aE_NothingToRedo => k_is)
    (case ty_BadAlphabet => k_is)
    (case kcE_BadAlphabet => k_is)
    (case gaE_BadAlphabet => k_is)
    (case ggE_BadAlphabet => k_is)
    (case sbE_BadAlphabet => k_is)
    (case hdE_BadAlphabet => k_is)
    (case caE_BadAlphabet => k_is)
    (case mrE_BadAlphabet => k_is)
    (case xL_BadAlphabet => k_is)
    (case hb_BadAlphabet => decide +kernel)
    (case saE_BadAlphabet => k_is)
    (case iE_BadAlphabet => k_is)
    (case tiE_BadAlphabet => k_is)
    (case lE_BadAlphabet => k_is)
    (case ccE_BadAlphabet => k_is)
    (case kpE_BadAlphabet => k_is)
    (case nfE_BadAlphabet_alphabet => k_is)
    (case kt_BadAlphabet_PressError => kit_is)
    (case kt_BadAlphabet_BadAlphabet => kit_is)
    (case kt_BadAlphabet_BadLetter => kit_is)
    (case kt_BadAlphabet_BadRow => kit_is)
    (case kt_BadAlphabet_BadTail => kit_is)
    (case kt_BadAlphabet_BadRank => kit_is)
    (case kt_BadAlphabet_NotBits => kit_is)
    (case kt_BadAlphabet_BadIndex => kit_is)
    (case kt_BadAlphabet_BadStanding => kit_is)
    (case kt_BadAlphabet_BadRule => kit_is)
    (case kt_BadAlphabet_AlphabetsDiffer => kit_is)
    (case kt_BadAlphabet_DoesNotComeBack => kit_is)
    (case kt_BadAlphabet_TooLarge => kit_is)
    (case kt_BadAlphabet_NotWritten => kit_is)
    (case kt_BadAlphabet_NoSuchText => kit_is)
    (case kt_BadAlphabet_BadName => kit_is)
    (case kt_BadAlphabet_NameTaken => kit_is)
    (case kt_BadAlphabet_NoName => kit_is)
    (case kt_BadAlphabet_EmptyRing => kit_is)
    (case kt_BadAlphabet_NotInLot => kit_is)
    (case kt_BadAlphabet_BadBuild => kit_is)
    (case kt_BadAlphabet_BadGrowth => kit_is)
    (case kt_BadAlphabet_EmptyText => kit_is)
    (case kt_BadAlphabet_NothingToUndo => kit_is)
    (case kt_BadAlphabet_NothingToRedo => kit_is)
    (case kt_BadAlphabet_VE => kit_is)
    (case ex_BadAlphabet_BadAlphabet => kts_exm)
    (case ex_BadAlphabet_BadLetter => kts_exm)
    (case ex_BadAlphabet_EmptyRing => kts_exm)
    (case ty_BadLetter => k_is)
    (case kcE_BadLetter => k_is)
    (case gaE_BadLetter => k_is)
    (case ggE_BadLetter => k_is)
    (case sbE_BadLetter => k_is)
    (case hdE_BadLetter => k_is)
    (case caE_BadLetter => k_is)
    (case mrE_BadLetter => k_is)
    (case xL_BadLetter => k_is)
    (case hb_BadLetter => decide +kernel)
    (case saE_BadLetter => k_is)
    (case iE_BadLetter => k_is)
    (case tiE_BadLetter => k_is)
    (case lE_BadLetter => k_is)
    (case ccE_BadLetter => k_is)
    (case kpE_BadLetter => k_is)
    (case nfE_BadLetter_index => k_is)
    (case kt_BadLetter_PressError => kit_is)
    (case kt_BadLetter_BadAlphabet => kit_is)
    (case kt_BadLetter_BadLetter => kit_is)
    (case kt_BadLetter_BadRow => kit_is)
    (case kt_BadLetter_BadTail => kit_is)
    (case kt_BadLetter_BadRank => kit_is)
    (case kt_BadLetter_NotBits => kit_is)
    (case kt_BadLetter_BadIndex => kit_is)
    (case kt_BadLetter_BadStanding => kit_is)
    (case kt_BadLetter_BadRule => kit_is)
    (case kt_BadLetter_AlphabetsDiffer => kit_is)
    (case kt_BadLetter_DoesNotComeBack => kit_is)
    (case kt_BadLetter_TooLarge => kit_is)
    (case kt_BadLetter_NotWritten => kit_is)
    (case kt_BadLetter_NoSuchText => kit_is)
    (case kt_BadLetter_BadName => kit_is)
    (case kt_BadLetter_NameTaken => kit_is)
    (case kt_BadLetter_NoName => kit_is)
    (case kt_BadLetter_EmptyRing => kit_is)
    (case kt_BadLetter_NotInLot => kit_is)
    (case kt_BadLetter_BadBuild => kit_is)
    (case kt_BadLetter_BadGrowth => kit_is)
    (case kt_BadLetter_EmptyText => kit_is)
    (case kt_BadLetter_NothingToUndo => kit_is)
    (case kt_BadLetter_NothingToRedo => kit_is)
    (case kt_BadLetter_VE => kit_is)
    (case ex_BadLetter_BadAlphabet => kts_exm)
    (case ex_BadLetter_BadLetter => kts_exm)
    (case ex_BadLetter_EmptyRing => kts_exm)
    (case ty_EmptyRing => k_is)
    (case kcE_EmptyRing => k_is)
    (case gaE_EmptyRing => k_is)
    (case ggE_EmptyRing => k_is)
    (case sbE_EmptyRing => k_is)
    (case hdE_EmptyRing => k_is)
    (case caE_EmptyRing => k_is)
    (case mrE_EmptyRing => k_is)
    (case qE_EmptyRing => first | k_exc | k_is)
    (case kt_EmptyRing_PressError => kit_is)
    (case kt_EmptyRing_BadAlphabet => kit_is)
    (case kt_EmptyRing_BadLetter => kit_is)
    (case kt_EmptyRing_BadRow => kit_is)
    (case kt_EmptyRing_BadTail => kit_is)
    (case kt_EmptyRing_BadRank => kit_is)
    (case kt_EmptyRing_NotBits => kit_is)
    (case kt_EmptyRing_BadIndex => kit_is)
    (case kt_EmptyRing_BadStanding => kit_is)
    (case kt_EmptyRing_BadRule => kit_is)
    (case kt_EmptyRing_AlphabetsDiffer => kit_is)
    (case kt_EmptyRing_DoesNotComeBack => kit_is)
    (case kt_EmptyRing_TooLarge => kit_is)
    (case kt_EmptyRing_NotWritten => kit_is)
    (case kt_EmptyRing_NoSuchText => kit_is)
    (case kt_EmptyRing_BadName => kit_is)
    (case kt_EmptyRing_NameTaken => kit_is)
    (case kt_EmptyRing_NoName => kit_is)
    (case kt_EmptyRing_EmptyRing => kit_is)
    (case kt_EmptyRing_NotInLot => kit_is)
    (case kt_EmptyRing_BadBuild => kit_is)
    (case kt_EmptyRing_BadGrowth => kit_is)
    (case kt_EmptyRing_EmptyText => kit_is)
    (case kt_EmptyRing_NothingToUndo => kit_is)
    (case kt_EmptyRing_NothingToRedo => kit_is)
    (case kt_EmptyRing_VE => kit_is)
    (case ex_EmptyRing_BadAlphabet => kts_exm)
    (case ex_EmptyRing_BadLetter => kts_exm)
    (case ex_EmptyRing_EmptyRing => kts_exm)
    (case aC_Round => k_is)
    (case pg_Round => k_is)
    (case hd_Round => k_is)
    (case po_Round => k_is)
    (case sa_Round => k_is)
    (case mk_Round => k_is)
    (case kc_Round => k_is)
    (case n_Round_alphabet => k_is)
    (case n_Round_head => k_is)
    (case n_Round_ring => k_is)
    (case n_Round_variety => k_is)
    (case hcQ_Round => k_is)
    (case moQ_Round => k_is)
    (case kkQ_Round => kit_is)
    (case ksQ_Round => kit_is)
    (case a25 => k_is)
    (case i25 => k_is)
    (case l25 => k_is)
    (case c25 => k_is)
    (case k25 => k_is)
    (case a26 => k_is)
    (case i26 => k_is)
    (case l26 => k_is)
    (case c26 => k_is)
    (case k26 => k_is)
    (case a27 => k_is)
    (case i27 => k_is)
    (case l27 => k_is)
    (case c27 => k_is)
    (case k27 => k_is)
    (case a28 => k_is)
    (case i28 => k_is)
    (case l28 => k_is)
    (case c28 => k_is)
    (case k28 => k_is)
    (case z_ValueError => k_is)
    (case z_all => k_is)
    (case z_bool => k_is)
    (case z_int => k_is)
    (case z_isinstance => k_is)
    (case z_len => k_is)
    (case z_list => k_is)
    (case z_max => k_is)
    (case z_min => k_is)
    (case z_range => k_is)
    (case z_repr => k_is)
    (case z_sorted => k_is)
    (case z_str => k_is)
    (case z_zip => k_is)
    (case g_LETTERS => k_is)
    (case g_MOST_LETTERS => k_is)

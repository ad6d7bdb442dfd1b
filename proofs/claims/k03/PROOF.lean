import PyProof.Rows.All
import Wide.All
import OpenK.AllK
import Wide.FinOn
import HandS.ForMost
import HandS.Evl
import HandS.WideBits
import HandS.IsInst
import HandS.Defaults
import HandS.StrMore
import HandS.Conv
import HandS.Walk
import HandS.FStr
import HandS.Style
import HandS.Replace
import HandS.Strs
import PyProof.FString3
import PyProof.SliceStr2
import KE.GoesEnumKw
import KE.GoesZip
import KE.LtData
import KE.GoesMore
import PyProof.EnumMake
import PyProof.Rows.StrIntSpec
import HandS.Codes
import PyProof.Rows.StrRev
import PyProof.StrLawsIn
import PyProof.StrBlock2
import HandS.DictTup
import HandS.TupLen
import PyProof.StrLawsFrom
import PyProof.Draws
import PyProof.DictMoreH
import HandS.Gcd
import Flt.RightSqrt
import HandS.Exc
import HandS.ExcOwn
import HandS.ExcInit
import HandS.ExcField
import HandS.ExcIs
import HandS.HotCalls
import HandS.TryMany
import HandS.WordsExc
import HandS.Lambda
import KE.KExcIs
import HandS.ExcValue
import HandS.OwnEq
import HandS.MakeKwOnly
import PyProof.ReprRoads
import PyProof.CollectStr
import HandS.Deep
import PyProof.MaxThree
import HandS.More
import HandS.Head0
import HandS.Head1
import HandS.Head2
import HandS.HeadEnd
import HandS.HeadHook1
import PySem.Challenge.RW_outpressed_k03_block_whole
set_option Elab.async false
set_option linter.all false
set_option maxRecDepth 100000
set_option maxHeartbeats 8000000
namespace Ver
open PySem PySem.Spec PyProof.Rows L2 Evl
/-! ### for over a list or a tuple -/
def iSeq (K : PySem.W.Frag) (te : TE) : TI := fun σ H R => te σ H fun x H1 => ∃ a : Addr, x = .ref a ∧ ((∃ xs, SqL K H1 a xs ∧ R (Itl K a) H1) ∨ (∃ xs, SqT K H1 a xs ∧ R (Itt K a) H1))
section
variable {X : Cx}
theorem pi_seq {tg e : Expr} {te : TE} (he : PE X e te) : PI X tg e (iSeq X.K te) := by
  refine ⟨fun pins s σ H R I h => ?_⟩
  refine thn (he.run pins s σ H _ I h) ?_
  intro v s1 got
  obtain ⟨x, H1, I1, r1, a, rfl, q⟩ := got
  cases (show v = Value.ref a from r1)
  have hd : PE X e te := he
  rcases q with ⟨xs, hs, q⟩ | ⟨xs, hs, q⟩
  · obtain ⟨its, _, p, _⟩ := I1.list hs
    refine wpAny_pyIter_list p.isList ?_
    exact pi_one (tk := s1.toks) I1 _ (turn_list a _) ⟨_, Heap.get?_push_size _ rfl, rfl, rfl⟩ q
  · obtain ⟨its, _, p, _⟩ := I1.tuple hs
    refine wpAny_pyIter_tuple (show s1.heap.IsTuple a its.toArray from p) ?_
    exact pi_one (tk := s1.toks) I1 _ (turn_tuple a _) ⟨_, Heap.get?_push_size _ rfl, rfl, rfl⟩ q
/-! ### a < b of data that are alike -/
def rLtD (K : PySem.W.Frag) : R2 := fun x y H Q => ∃ d e, Dp K H x d ∧ Dp K H y e ∧ PySem.W.alike d e = true ∧ d ≠ .none ∧ d.depth ≤ 32 ∧ Q (.bl (PySem.W.dataLt d e)) H
theorem op_ltD (hu : X.A.units + 64 < cLine) : OpR X (compareOp .Lt) (rLtD X.K) := by
  intro pins s σ H x y v u Q I rx ry h
  obtain ⟨d, e, hd, he, al, nn, dep, q⟩ := h
  obtain ⟨as, r1⟩ := Dp.reads I d x v hd rx
  obtain ⟨bs, r2⟩ := Dp.reads I e y u he ry
  have room : X.A.units + min d.depth e.depth < cLine := by
    have := Nat.min_le_left d.depth e.depth
    omega
  have k := PySem.W.rcLt_alike d e X.A s v u as bs r1 r2 al nn room
  exact k X.prog X.w X.xe _ ⟨.bl _, H, I, rfl, q⟩
/-! ### text[::-1]: some text of its signs, no longer -/
def tRevS (te : TE) : TE := fun σ H Q => te σ H fun x H1 => ∃ z : Str, x = .str z ∧ z.length ≤ sizeLine ∧ ∀ y : Str, (∀ c ∈ y.cps.toList, c ∈ z.cps.toList) → y.length ≤ z.length → Q (.str y) H1
end
end Ver
namespace Ver
def at0 (ps : List Int) (i : Nat) : Int := ps.getD i 0
/-! ### strings of bits as lists of codes -/
def bit1 (c : Nat) : Int := if c = 49 then 1 else 0
def val (l : List Nat) : Int := l.foldl (fun v c => v * 2 + bit1 c) 0
def Digs (l : List Nat) : Prop := ∀ c, c ∈ l → c = 48 ∨ c = 49
def p2 : Nat → Int
  | 0 => 1
  | n + 1 => p2 n * 2
theorem p2_pos : ∀ n, 0 < p2 n
  | 0 => by decide
  | n + 1 => by
    have h := p2_pos n
    show 0 < p2 n * 2
    omega
theorem p2_cast : ∀ n, p2 n = ((2 ^ n : Nat) : Int)
  | 0 => rfl
  | n + 1 => by
    show p2 n * 2 = _
    rw [p2_cast n, Nat.pow_succ, Int.natCast_mul]
    rfl
def valR : List Nat → Int
  | [] => 0
  | c :: r => bit1 c * p2 r.length + valR r
theorem fold_val : ∀ (l : List Nat) (a : Int), l.foldl (fun v c => v * 2 + bit1 c) a = a * p2 l.length + valR l
  | [], a => by
    show a = a * 1 + 0
    omega
  | c :: r, a => by
    show r.foldl (fun v c => v * 2 + bit1 c) (a * 2 + bit1 c) = a * (p2 r.length * 2) + (bit1 c * p2 r.length + valR r)
    rw [fold_val r, Int.add_mul]
    have e : a * 2 * p2 r.length = a * (p2 r.length * 2) := by rw [Int.mul_assoc, Int.mul_comm 2]
    rw [e]
    omega
theorem val_R (l : List Nat) : val l = valR l := by
  unfold val
  rw [fold_val l 0]
  omega
theorem valR_bound : ∀ l : List Nat, 0 ≤ valR l ∧ valR l < p2 l.length
  | [] => ⟨Int.le_refl 0, by decide⟩
  | c :: r => by
    obtain ⟨h1, h2⟩ := valR_bound r
    show 0 ≤ bit1 c * p2 r.length + valR r ∧ bit1 c * p2 r.length + valR r < p2 r.length * 2
    unfold bit1
    split
    · omega
    · omega
theorem lex_of_val : ∀ (a b : List Nat), a.length = b.length → Digs a → Digs b → valR a < valR b → a < b
  | [], [], _, _, _, h => absurd h (Int.lt_irrefl 0)
  | [], _ :: _, h, _, _, _ => nomatch h
  | _ :: _, [], h, _, _, _ => nomatch h
  | x :: r, y :: t, hl, ha, hb, hv => by
    have hl2 : r.length = t.length := Nat.succ.inj hl
    have b1 := valR_bound r
    have b2 := valR_bound t
    have hx := ha x (List.mem_cons_self ..)
    have hy := hb y (List.mem_cons_self ..)
    have hv2 : bit1 x * p2 r.length + valR r < bit1 y * p2 t.length + valR t := hv
    rw [← hl2] at hv2 b2
    rw [List.cons_lt_cons_iff]
    rcases hx with rfl | rfl
    · rcases hy with rfl | rfl
      · refine .inr ⟨rfl, lex_of_val r t hl2 (fun c h => ha c (List.mem_cons_of_mem _ h)) (fun c h => hb c (List.mem_cons_of_mem _ h)) ?_⟩
        simp only [bit1] at hv2
        omega
      · exact .inl (by decide)
    · rcases hy with rfl | rfl
      · simp only [bit1] at hv2
        simp at hv2
        omega
      · refine .inr ⟨rfl, lex_of_val r t hl2 (fun c h => ha c (List.mem_cons_of_mem _ h)) (fun c h => hb c (List.mem_cons_of_mem _ h)) ?_⟩
        simp only [bit1] at hv2
        omega
theorem valR_append : ∀ (a b : List Nat), valR (a ++ b) = valR a * p2 b.length + valR b
  | [], b => by
    show valR b = 0 * p2 b.length + valR b
    omega
  | c :: r, b => by
    have ih := valR_append r b
    show bit1 c * p2 (r ++ b).length + valR (r ++ b) = (bit1 c * p2 r.length + valR r) * p2 b.length + valR b
    have e : p2 (r ++ b).length = p2 r.length * p2 b.length := by
      rw [p2_cast, p2_cast, p2_cast, List.length_append, Nat.pow_add, Int.natCast_mul]
    rw [ih, e, Int.add_mul, Int.mul_assoc]
    omega
theorem valR_zeros : ∀ n : Nat, valR (List.replicate n 48) = 0
  | 0 => rfl
  | n + 1 => by
    show bit1 48 * p2 (List.replicate n 48).length + valR (List.replicate n 48) = 0
    rw [valR_zeros n]
    show (0 : Int) * _ + 0 = 0
    omega
def bins (n : Nat) : List Nat := (Nat.toDigits 2 n).map Char.toNat
theorem bins_ok (n : Nat) : Digs (bins n) ∧ valR (bins n) = (n : Int) := by
  induction n using Nat.strongRecOn with
  | ind n ih =>
    unfold bins
    rw [Nat.toDigits_eq_if (by decide)]
    by_cases h : n < 2
    · rw [if_pos h]
      have : n = 0 ∨ n = 1 := by omega
      rcases this with rfl | rfl
      · exact ⟨fun c hc => .inl (List.mem_singleton.mp (show c ∈ [48] from hc)), rfl⟩
      · exact ⟨fun c hc => .inr (List.mem_singleton.mp (show c ∈ [49] from hc)), rfl⟩
    · rw [if_neg h, List.map_append]
      obtain ⟨h1, h2⟩ := ih (n / 2) (by omega)
      have hm : n % 2 = 0 ∨ n % 2 = 1 := by omega
      refine ⟨fun c hc => ?_, ?_⟩
      · rcases List.mem_append.mp hc with hc | hc
        · exact h1 c hc
        · rcases hm with e | e
          · rw [e] at hc
            exact .inl (List.mem_singleton.mp (show c ∈ [48] from hc))
          · rw [e] at hc
            exact .inr (List.mem_singleton.mp (show c ∈ [49] from hc))
      · have e1 : valR (List.map Char.toNat (Nat.toDigits 2 (n / 2))) = ((n / 2 : Nat) : Int) := h2
        rw [valR_append, e1]
        rcases hm with e | e
        · rw [e]
          show ((n / 2 : Nat) : Int) * 2 + 0 = (n : Int)
          omega
        · rw [e]
          show ((n / 2 : Nat) : Int) * 2 + 1 = (n : Int)
          omega
theorem bins_len {n k : Nat} (hk : 0 < k) (h : n < 2 ^ k) : (bins n).length ≤ k := by
  unfold bins
  rw [List.length_map]
  exact (Nat.length_toDigits_le_iff (by decide) hk).mpr h
theorem bins_pos (n : Nat) : 0 < (bins n).length := by
  unfold bins
  rw [List.length_map]
  exact Nat.length_toDigits_pos
/-- n as exactly w bits -/
def nbL (n w : Nat) : List Nat := if w = 0 then [] else List.replicate (w - (bins n).length) 48 ++ bins n
structure Nb (l : List Nat) (n : Int) (w : Nat) : Prop where
  len : l.length = w
  digs : Digs l
  v : valR l = n
theorem nb_ok {n w : Nat} (h : n < 2 ^ w) : Nb (nbL n w) (n : Int) w := by
  unfold nbL
  by_cases c : w = 0
  · subst c
    have : n = 0 := by
      rw [Nat.pow_zero] at h
      omega
    subst this
    exact ⟨rfl, fun c hc => (nomatch hc), rfl⟩
  · rw [if_neg c]
    have hl := bins_len (by omega) h
    obtain ⟨h1, h2⟩ := bins_ok n
    refine ⟨?_, fun d hd => ?_, ?_⟩
    · rw [List.length_append, List.length_replicate]
      omega
    · rcases List.mem_append.mp hd with hd | hd
      · exact .inl (List.eq_of_mem_replicate hd)
      · exact h1 d hd
    · rw [valR_append, valR_zeros, h2]
      omega
end Ver
namespace Ver
open PySem PySem.Spec PyProof.Rows L2 Evl
/-! called with keywords alone -/
section
variable {X : Cx} {CX : CXT} {k : Nat} {f : Addr} {fd : FuncData} {ps ks : List Str} {sp : Sp} {E : XK} {x : Str} {p pos : Pos} {kws : List Keyword} {tk : TA} {g : List Value → List Value → List Value} {gV : List V → List V → List V}
theorem pe_callN0 (F : FnOk X.prog X.w X.K X.mg X.base CX k f fd ps sp) (room : Room k X.A) (gl : Gl X x) (at_ : X.mg x = some (.ref f)) (keep : PySem.W.keepIn X.K (.ref f) = true)
    (bd : KBn X.K fd ps 0 ks g gV) (pass : Passes CX X E) (kw : PK X kws tk)
    (named : (backToKw pos (keywordEach kws X.env)).all (·.1.isSome) = true := by rfl)
    (names : (backToKw pos (keywordEach kws X.env)).filterMap (·.1) = ks := by rfl)
    (nodebug : (x == ("__debug__" : Str)) = false := by decide)
    (plain : ((backTo pos (starEach [] X.env)).any (·.1) || (backToKw pos (keywordEach kws X.env)).any (·.1.isNone)) = false := by rfl) :
    PE X (.Call (.Name x p) [] kws pos) (tCallN 0 ks.length sp gV E tNil tk) := by
  refine ⟨fun pins s σ H Q I h => ?_⟩
  refine wpAny_Call_Name_kw (ld_glob I gl at_ ?_ nodebug)
  refine PySem.W.callWith_KW0 (h₀ := X.base) I.ok.mod.kin keep named ?_ plain
  refine thn (kw.run pos pins s σ H _ I h) ?_
  intro ws s2 got
  obtain ⟨zs, H2, I2, rz, l1, l2, q2⟩ := got
  refine ⟨I2.kIn, ?_⟩
  rw [names]
  exact run_fnN (us := []) (vs := []) F room bd pass I2 .nil rz rfl l2 q2
end
theorem E_of {H : Hp} {p : Addr} {o : HO} (h : H p = none) : Ex H (upd H p o) := Ex.new h
/-! ### calls of built-ins on values -/
section
variable {K : PySem.W.Frag} {H : Hp}
theorem rc_min {i j : Int} : RC (fun xs H Q => ∃ i j, xs = [V.int i, V.int j] ∧ Q (V.int (if j < i then j else i)) H) [.int i, .int j] H (.int (min i j)) := fun H1 _ Q q =>
  ⟨i, j, rfl, by
    have e : (if j < i then j else i) = min i j := by
      split <;> omega
    rw [e]
    exact q H1 (Ex.refl H1)⟩
theorem rc_max {i j : Int} : RC (fun xs H Q => ∃ i j, xs = [V.int i, V.int j] ∧ Q (V.int (if j > i then j else i)) H) [.int i, .int j] H (.int (max i j)) := fun H1 _ Q q =>
  ⟨i, j, rfl, by
    have e : (if j > i then j else i) = max i j := by
      split <;> omega
    rw [e]
    exact q H1 (Ex.refl H1)⟩
theorem rc_int {i : Int} : RC (fun xs H Q => (∃ i, xs = [V.int i] ∧ Q (V.int i) H) ∨ ∃ k, xs = [V.bl k] ∧ Q (V.int (if k = true then 1 else 0)) H) [.int i] H (.int i) := fun H1 _ _ q =>
  .inl ⟨i, rfl, q H1 (Ex.refl H1)⟩
theorem rc_intB {b : Bool} : RC (fun xs H Q => (∃ i, xs = [V.int i] ∧ Q (V.int i) H) ∨ ∃ k, xs = [V.bl k] ∧ Q (V.int (if k = true then 1 else 0)) H) [.bl b] H (.int (if b = true then 1 else 0)) := fun H1 _ _ q =>
  .inr ⟨b, rfl, q H1 (Ex.refl H1)⟩
theorem rc_lenL {p : Addr} {xs : List V} (h : SqL K H p xs) : RC (fun vs H Q => ∃ p ys, vs = [V.ref p] ∧ (SqL K H p ys ∨ SqT K H p ys) ∧ Q (V.int ys.length) H) [.ref p] H (.int xs.length) := fun H1 e _ q =>
  ⟨p, xs, rfl, .inl (ex_l e h), q H1 (Ex.refl H1)⟩
theorem rc_sum {p : Addr} {ns : List Int} (h : SqL K H p (ns.map V.int)) : RC (fun vs H Q => ∃ (a : Addr) (ns : List Int), vs = [V.ref a] ∧ SqL K H a (ns.map V.int) ∧ Q (V.int ns.sum) H) [.ref p] H (.int ns.sum) := fun H1 e _ q =>
  ⟨p, ns, rfl, ex_l e h, q H1 (Ex.refl H1)⟩
end
/-- the int at a place -/
theorem at_int {ns : List Int} {i : Nat} (h : i < ns.length) : atI (ns.map V.int) (i : Int) = some (.int (at0 ns i)) := by
  refine atI_nat ?_
  rw [List.getElem?_map, List.getElem?_eq_getElem h]
  unfold at0
  rw [List.getD_eq_getElem?_getD, List.getElem?_eq_getElem h]
  rfl
def bitsOf (n : Int) : Int := ((Builtin.Int.intBits (n - 1) : Nat) : Int)
/-! ### readings in short -/
section
variable {σ : L2.St} {H : Hp} {t : TT} {tu tz : TS} {D : Ends} {K : PySem.W.Frag} {ta tb : TE}
/-- an if that is not taken -/
theorem q_skip (h : EvT t σ H false) (k : ∀ H1, Ex H H1 → tz D σ H1) : tSeq (tIfS t tu tNext) tz D σ H := q_when h (fun hb => absurd hb Bool.false_ne_true) (fun _ => k)
theorem s_skip (h : EvT t σ H false) (k : ∀ H1, Ex H H1 → D.nx σ H1) : tIfS t tu tNext D σ H := s_when h (fun hb => absurd hb Bool.false_ne_true) (fun _ => k)
/-- an if that is taken -/
theorem q_take (h : EvT t σ H true) (k : ∀ H1, Ex H H1 → tu { D with nx := tz D } σ H1) : tSeq (tIfS t tu tNext) tz D σ H := q_when h (fun _ => k) (fun hb => nomatch hb)
theorem et_lt {i j : Int} (ha : Ev ta σ H (.int i)) (hb : Ev tb σ H (.int j)) : EvT (tTest (tOp (rI0 fun i j => .bl (decide (i < j))) ta tb)) σ H (decide (i < j)) := et_test (ev_op ha hb rv_I0)
theorem et_le {i j : Int} (ha : Ev ta σ H (.int i)) (hb : Ev tb σ H (.int j)) : EvT (tTest (tOp (rI0 fun i j => .bl (decide (i ≤ j))) ta tb)) σ H (decide (i ≤ j)) := et_test (ev_op ha hb rv_I0)
theorem et_gt {i j : Int} (ha : Ev ta σ H (.int i)) (hb : Ev tb σ H (.int j)) : EvT (tTest (tOp (rI0 fun i j => .bl (decide (j < i))) ta tb)) σ H (decide (j < i)) := et_test (ev_op ha hb rv_I0)
theorem et_ge {i j : Int} (ha : Ev ta σ H (.int i)) (hb : Ev tb σ H (.int j)) : EvT (tTest (tOp (rI0 fun i j => .bl (decide (j ≤ i))) ta tb)) σ H (decide (j ≤ i)) := et_test (ev_op ha hb rv_I0)
theorem et_neI {i j : Int} (ha : Ev ta σ H (.int i)) (hb : Ev tb σ H (.int j)) : EvT (tTest (tOp rNe ta tb)) σ H (!decide (i = j)) := et_test (ev_is (ev_op ha hb (rv_ne rfl)) (by simp))
theorem et_eqI {i j : Int} (ha : Ev ta σ H (.int i)) (hb : Ev tb σ H (.int j)) : EvT (tTest (tOp rEq ta tb)) σ H (decide (i = j)) := et_test (ev_is (ev_op ha hb (rv_eq rfl)) (by simp))
/-- x + y, x - y, x * y, x // y, x % y -/
theorem ev_add {i j : Int} (ha : Ev ta σ H (.int i)) (hb : Ev tb σ H (.int j)) : Ev (tOp (rI0 fun i j => .int (i + j)) ta tb) σ H (.int (i + j)) := ev_op ha hb rv_I0
theorem ev_sub {i j : Int} (ha : Ev ta σ H (.int i)) (hb : Ev tb σ H (.int j)) : Ev (tOp (rI0 fun i j => .int (i - j)) ta tb) σ H (.int (i - j)) := ev_op ha hb rv_I0
theorem ev_mulR {i j : Int} (h1 : -18446744073709551616 < j) (h2 : j < 18446744073709551616) (ha : Ev ta σ H (.int i)) (hb : Ev tb σ H (.int j)) : Ev (tOp (rI CMul fun i j => .int (i * j)) ta tb) σ H (.int (i * j)) := ev_op ha hb (rv_I (Or.inr ⟨by omega, by omega⟩))
theorem ev_mulL {i j : Int} (h1 : -18446744073709551616 < i) (h2 : i < 18446744073709551616) (ha : Ev ta σ H (.int i)) (hb : Ev tb σ H (.int j)) : Ev (tOp (rI CMul fun i j => .int (i * j)) ta tb) σ H (.int (i * j)) := ev_op ha hb (rv_I (Or.inl ⟨by omega, by omega⟩))
theorem ev_mod {i j : Int} (h : 0 < j) (ha : Ev ta σ H (.int i)) (hb : Ev tb σ H (.int j)) : Ev (tOp (rI (fun _ j => 0 < j) fun i j => .int (i % j)) ta tb) σ H (.int (i % j)) := ev_op ha hb (rv_I h)
theorem div_ok {i j : Int} (h : 0 < j) (h2 : j < 18446744073709551616) : CDivW i j := wide_div (b := 64) h (by omega) (by decide) (by decide)
theorem ev_div {i j : Int} (h : 0 < j) (h2 : j < 18446744073709551616) (ha : Ev ta σ H (.int i)) (hb : Ev tb σ H (.int j)) : Ev (tOp (rI CDivW fun i j => .int (i / j)) ta tb) σ H (.int (i / j)) := ev_op ha hb (rv_I (div_ok h h2))
theorem ev_int {i : Int} (ha : Ev ta σ H (.int i)) : Ev (tCB (fun xs H Q => (∃ i, xs = [V.int i] ∧ Q (V.int i) H) ∨ ∃ k, xs = [V.bl k] ∧ Q (V.int (if k = true then 1 else 0)) H) (tCons ta tNil)) σ H (.int i) := ev_cb (ea_cons ha ea_nil) rc_int
theorem ev_intB {b : Bool} (ha : Ev ta σ H (.bl b)) : Ev (tCB (fun xs H Q => (∃ i, xs = [V.int i] ∧ Q (V.int i) H) ∨ ∃ k, xs = [V.bl k] ∧ Q (V.int (if k = true then 1 else 0)) H) (tCons ta tNil)) σ H (.int (if b = true then 1 else 0)) := ev_cb (ea_cons ha ea_nil) rc_intB
/-- xs[i] of ints -/
theorem ev_at {a : Addr} {ns : List Int} {i : Nat} (hs : SqL K H a (ns.map V.int)) (hi : i < ns.length) (ha : Ev ta σ H (.ref a)) (hb : Ev tb σ H (.int (i : Int))) : Ev (tOp (rIxL K) ta tb) σ H (.int (at0 ns i)) := ev_op ha hb (rv_ixL hs (at_int hi))
end
theorem at0_get {ns : List Int} {i : Nat} {x : V} (h : (ns.map V.int)[i]? = some x) : i < ns.length ∧ x = .int (at0 ns i) := by
  rw [List.getElem?_map] at h
  cases e : ns[i]? with
  | none =>
    rw [e] at h
    cases h
  | some y =>
    rw [e] at h
    have hi : i < ns.length := (List.getElem?_eq_some_iff.mp e).1
    refine ⟨hi, ?_⟩
    unfold at0
    rw [List.getD_eq_getElem?_getD, e]
    exact (Option.some.inj h).symm
theorem at0_mem {ns : List Int} {i : Nat} (h : i < ns.length) : at0 ns i ∈ ns := by
  unfold at0
  rw [List.getD_eq_getElem?_getD, List.getElem?_eq_getElem h]
  exact List.getElem_mem h
section
variable {K : PySem.W.Frag}
theorem rc_isi {n : Int} {c : String} {b : Bool} {H : Hp} (h : kitB "int" c = some b) : RC (rIsi K) [.int n, .ty c] H (.bl b) := fun H1 _ _ q =>
  ⟨.int n, .ty c, _, _, b, rfl, .ty c, .base (.int n), kit_ty h, q H1 (Ex.refl H1)⟩
theorem rc_isiS {z : Str} {c : String} {b : Bool} {H : Hp} (h : kitB "str" c = some b) : RC (rIsi K) [.str z, .ty c] H (.bl b) := fun H1 _ _ q =>
  ⟨.str z, .ty c, _, _, b, rfl, .ty c, .base (.str z), kit_ty h, q H1 (Ex.refl H1)⟩
theorem pow_mono {b : Int} (hb : 1 ≤ b) {i j : Nat} (h : i ≤ j) : b ^ i ≤ b ^ j := by
  induction h with
  | refl => exact Int.le_refl _
  | @step k _ ih =>
    have hp : 0 ≤ b ^ k := Int.pow_nonneg (by omega)
    have h2 : b ^ k * 1 ≤ b ^ k * b := Int.mul_le_mul_of_nonneg_left hb hp
    rw [Int.mul_one] at h2
    rw [Int.pow_succ]
    omega
theorem pow_pos1 {b : Int} (hb : 1 ≤ b) (i : Nat) : 1 ≤ b ^ i := by
  have h := pow_mono hb (Nat.zero_le i)
  rw [Int.pow_zero] at h
  exact h
theorem log2_is {n i : Nat} (h1 : 2 ^ i ≤ n) (h2 : n < 2 ^ (i + 1)) : n.log2 = i := by
  have h0 : n ≠ 0 := by
    have := Nat.pow_pos (n := i) (show 0 < 2 by decide)
    omega
  have a := (Nat.log2_lt h0).mpr h2
  have b := (Nat.le_log2 h0).mpr h1
  omega
theorem bits_is {m : Int} {i : Nat} (h1 : 1 ≤ m) (h2 : m ≤ 2 ^ i) (h3 : i = 0 ∨ ∃ j, i = j + 1 ∧ (2 : Int) ^ j < m) : bitsOf m = (i : Int) := by
  unfold bitsOf Builtin.Int.intBits
  obtain ⟨n, hn⟩ := Int.eq_ofNat_of_zero_le (show 0 ≤ m - 1 by omega)
  rw [hn]
  have cast : ∀ k : Nat, ((2 : Int) ^ k) = ((2 ^ k : Nat) : Int) := fun k => by
    rw [Int.natCast_pow]
    rfl
  rw [cast] at h2
  have hlt : n < 2 ^ i := by omega
  rcases h3 with rfl | ⟨j, rfl, h3⟩
  · have hz : n = 0 := by
      rw [Nat.pow_zero] at hlt
      omega
    subst hz
    rfl
  · rw [cast] at h3
    have hge : 2 ^ j ≤ n := by omega
    have h0 : n ≠ 0 := by
      have := Nat.pow_pos (n := j) (show 0 < 2 by decide)
      omega
    rw [if_neg (by simpa using h0)]
    show (((n : Int).natAbs.log2 + 1 : Nat) : Int) = ((j + 1 : Nat) : Int)
    rw [Int.natAbs_natCast, log2_is hge hlt]
theorem bits_nn (m : Int) : 0 ≤ bitsOf m := Int.natCast_nonneg _
theorem ev_atI {ta tb : TE} {σ : L2.St} {H : Hp} {a : Addr} {ns : List Int} {i : Nat} {z : Int} (hs : SqL K H a (ns.map V.int)) (hi : i < ns.length) (hz : z = (i : Int)) (ha : Ev ta σ H (.ref a)) (hb : Ev tb σ H (.int z)) : Ev (tOp (rIxL K) ta tb) σ H (.int (at0 ns i)) := by
  subst hz
  exact ev_at hs hi ha hb
theorem ev_callN0 {tk : TA} {σ : L2.St} {H : Hp} {sp : Sp} {n : Nat} {gV : List V → List V → List V} {E : XK} {zs : List V} {z : V} (h : EvA tk σ H zs) (hn : zs.length = n) (hs : SpV sp (gV [] zs) H z) : Ev (tCallN 0 n sp gV E tNil tk) σ H z := fun H1 e Q q =>
  h H1 e _ fun H2 e2 => ⟨rfl, hn, hs H2 (e.trans e2) Q (fun H3 e3 => q H3 (e2.trans e3)) E⟩
end
end Ver
namespace Ver
open PySem PySem.Spec PyProof.Rows L2 Evl
/-! ### enumerate(xs, start=k), xs a list or a tuple -/
section
variable {M : Model} {A : Around} {E : Value → Shared → Prop} {s : Shared} {env : Env}
theorem type_with_kw {pos : Pos} {T : String} {args : List (Bool × Sem Value)} {kw : List (Option Str × Sem Value)} {Q : Value → Shared → Prop}
    (h1 : args.any (·.1) = false) (h2 : kw.any (·.1.isNone) = false)
    (h : wpAny M A (evalArgs (.type T) true args kw) (fun a s1 => wpAny M A (call (.type T) a.pos a.kw) Q E s1) E s) :
    wpAny M A (callWith pos (.type T) [] args kw) Q E s := by
  unfold callWith
  refine wpAny_bind (wpAny_holding ?_)
  refine wpAny_mono h (fun a s1 got => ?_) (fun _ _ x => x)
  refine wpAny_bind (wpAny_standAt ?_)
  simp only [h1, h2, Bool.or_false]
  refine wpAny_bind (wpAny_pure ?_)
  refine wpAny_bind (wpAny_mono got (fun r s2 hr => ?_) (fun _ _ x => x))
  exact wpAny_bind (wpAny_holding (wpAny_point (wpAny_pure hr)))
end
/-- the list at a, its items in new pairs, counted from k on -/
def IteL (K : PySem.W.Frag) (k : Int) (a : Addr) : It where
  go := fun i H => ∃ (xs : List V) (x : V), SqL K H a xs ∧ xs[i]? = some x
  yld := fun i H v H' => ∃ T x, v = .ref T ∧ H T = none ∧ H' = upd H T (.tup [.int (k + (i : Int)), x]) ∧ ∀ xs, SqL K H a xs → xs[i]? = some x
  stop := fun i H => ∃ xs : List V, SqL K H a xs ∧ xs.length = i
def IteT (K : PySem.W.Frag) (k : Int) (a : Addr) : It where
  go := fun i H => ∃ (xs : List V) (x : V), SqT K H a xs ∧ xs[i]? = some x
  yld := fun i H v H' => ∃ T x, v = .ref T ∧ H T = none ∧ H' = upd H T (.tup [.int (k + (i : Int)), x]) ∧ ∀ xs, SqT K H a xs → xs[i]? = some x
  stop := fun i H => ∃ xs : List V, SqT K H a xs ∧ xs.length = i
theorem two_mem {b e i : Addr} (h : b ∈ [e, i]) : b = e ∨ b = i := by simpa using h
section
variable {P : Program} {w : World} {K : PySem.W.Frag} {elts : List Expr} {kk : Nat} {tpos : Pos}
theorem turnL (k : Int) (a e it : Addr) : Turn P w K (.Tuple elts kk tpos) (IteL K k a) [e, it] e
    (fun i h => (∃ old, IsEnum h e it (k + (i : Int)) old) ∧ h.IsListIter it a i ∧ e ≠ it ∧ a ≠ it ∧ a ≠ e) where
  mem := List.mem_cons_self ..
  obj := fun i h st b hb => by
    obtain ⟨⟨old, he⟩, ⟨o, ho, _, hd⟩, _⟩ := st
    rcases two_mem hb with z | z
    · subst z
      exact ⟨_, he, fun v q => nomatch q⟩
    · subst z
      refine ⟨o, ho, fun v q => ?_⟩
      rw [hd] at q
      cases q
  keep := fun i h h' st kp => by
    obtain ⟨⟨old, he⟩, hi, r⟩ := st
    exact ⟨⟨old, kp e (by simp) _ he⟩, hi.at fun o q => kp it (by simp) o q, r⟩
  item := by
    intro X hP hw hK hc i pins s σ H E I hf st hg
    subst hP hw hK
    obtain ⟨⟨old, he⟩, hit, hei, hai, hae⟩ := st
    obtain ⟨xs, x, hq, hx⟩ := hg
    obtain ⟨its, rv, p, hz⟩ := I.list hq
    obtain ⟨u, hu, ru⟩ := rv.get hx
    have hil : i < its.toArray.size := by
      have := (List.getElem?_eq_some_iff.mp hu).1
      simpa using this
    have D := Draws.list (prog := X.prog) (w := X.w) (A := X.A.in1) (I.ok.hd hc) it a hai its.toArray
    have lte : e < s.heap.objs.size := Heap.lt_size he
    have lti : it < s.heap.objs.size := by
      obtain ⟨_, q, _⟩ := hit
      exact Heap.lt_size q
    refine wpAny_pyNext_enum_itemC D he ⟨hit, p.isList⟩ hil hei (by simp [hei, hae.symm]) ?_
    intro y h' tk hy ho hst hT hsz keep
    have eu : y = u := by
      have h2 : its.toArray[i]? = some u := by simpa using hu
      rw [h2] at hy
      exact (Option.some.inj hy).symm
    subst eu
    refine ⟨_, rfl, wpAny_letOwnedTupleGo_enum (s := { s with heap := h', toks := tk + 1 }) ho ?_⟩
    intro h2 he2 sb
    have t2 : h2.get? s.heap.objs.size = some { cls := .type "tuple", data := .seq #[.int (k + (i : Int)) tk, y] } := (sb.2 _ (Nat.ne_of_gt lte)).trans hT
    have new : ObjOk X.prog X.w (upd H s.heap.objs.size (.tup [.int (k + (i : Int)), x])) h2 s.heap.objs.size (.tup [.int (k + (i : Int)), x]) :=
      ⟨(by show 2 ≤ sizeLine; decide), [.int (k + (i : Int)) tk, y], .cons ⟨_, rfl⟩ (.cons ru .nil), ⟨_, t2, rfl, _, rfl⟩⟩
    have I1 : Inv X pins σ (upd H s.heap.objs.size (.tup [.int (k + (i : Int)), x])) { s with heap := h2, toks := tk + 1 } := by
      refine I.turnedNew (ch := [e, it]) (fun b ob nb q => ?_) hf (Nat.le_refl _) new
      have n1 : b ≠ e := fun z => nb (by simp [z])
      have n2 : b ≠ it := fun z => nb (by simp [z])
      exact (sb.2 b n1).trans (keep b ob n1 n2 q)
    refine ⟨.ref s.heap.objs.size, _, I1, rfl, ⟨_, x, rfl, I.hok.fresh (Nat.le_refl _), rfl, fun ys hy2 => ?_⟩, ⟨⟨y, ?_⟩, hst.1.at fun o q => (sb.2 it (Ne.symm hei)).trans q, hei, hai, hae⟩, fun b hb => ?_⟩
    · rw [I.list_inj hy2 hq]
      exact hx
    · have e1 : k + ((i + 1 : Nat) : Int) = k + (i : Int) + 1 := by omega
      rw [e1]
      exact he2
    · have lb : b < s.heap.objs.size := by
        rcases two_mem hb with z | z
        · rw [z]
          exact lte
        · rw [z]
          exact lti
      rw [upd_ne (Nat.ne_of_lt lb)]
      exact (hf b hb).1
  done := by
    intro X hP hw hK hc i pins s σ H E I hf st hg
    subst hP hw hK
    obtain ⟨⟨old, he⟩, hit, hei, hai, hae⟩ := st
    obtain ⟨xs, hq, hx⟩ := hg
    obtain ⟨its, rv, p, hz⟩ := I.list hq
    obtain ⟨f0, f1, f2, f3, f4, f5⟩ := hf it (by simp)
    have hl := rv.length
    have D := Draws.list (prog := X.prog) (w := X.w) (A := X.A.in1) (I.ok.hd hc) it a hai its.toArray
    have c : i = its.toArray.size := by
      simp
      omega
    subst c
    exact wpAny_pyNext_enum_endD D he ⟨hit, p.isList⟩ fun h' eb => ⟨rfl, I.turned (t' := s.toks) (fun b o hb q => eb b o hb q) f0 f1 f3 f4 f5⟩
  self := fun A i s Q E st h => by
    obtain ⟨⟨_, he⟩, _⟩ := st
    exact wpAny_pyIter_enum he h
theorem turnT (k : Int) (a e it : Addr) : Turn P w K (.Tuple elts kk tpos) (IteT K k a) [e, it] e
    (fun i h => (∃ old, IsEnum h e it (k + (i : Int)) old) ∧ h.IsTupleIter it a i ∧ e ≠ it ∧ a ≠ it ∧ a ≠ e) where
  mem := List.mem_cons_self ..
  obj := fun i h st b hb => by
    obtain ⟨⟨old, he⟩, ⟨o, ho, _, hd⟩, _⟩ := st
    rcases two_mem hb with z | z
    · subst z
      exact ⟨_, he, fun v q => nomatch q⟩
    · subst z
      refine ⟨o, ho, fun v q => ?_⟩
      rw [hd] at q
      cases q
  keep := fun i h h' st kp => by
    obtain ⟨⟨old, he⟩, hi, r⟩ := st
    exact ⟨⟨old, kp e (by simp) _ he⟩, hi.at fun o q => kp it (by simp) o q, r⟩
  item := by
    intro X hP hw hK hc i pins s σ H E I hf st hg
    subst hP hw hK
    obtain ⟨⟨old, he⟩, hit, hei, hai, hae⟩ := st
    obtain ⟨xs, x, hq, hx⟩ := hg
    obtain ⟨its, rv, p, hz⟩ := I.tuple hq
    obtain ⟨u, hu, ru⟩ := rv.get hx
    have hil : i < its.toArray.size := by
      have := (List.getElem?_eq_some_iff.mp hu).1
      simpa using this
    have D := Draws.tuple (prog := X.prog) (w := X.w) (A := X.A.in1) (I.ok.hd hc) it a hai its.toArray
    have lte : e < s.heap.objs.size := Heap.lt_size he
    have lti : it < s.heap.objs.size := by
      obtain ⟨_, q, _⟩ := hit
      exact Heap.lt_size q
    refine wpAny_pyNext_enum_itemC D he ⟨hit, (show s.heap.IsTuple a its.toArray from p)⟩ hil hei (by simp [hei, hae.symm]) ?_
    intro y h' tk hy ho hst hT hsz keep
    have eu : y = u := by
      have h2 : its.toArray[i]? = some u := by simpa using hu
      rw [h2] at hy
      exact (Option.some.inj hy).symm
    subst eu
    refine ⟨_, rfl, wpAny_letOwnedTupleGo_enum (s := { s with heap := h', toks := tk + 1 }) ho ?_⟩
    intro h2 he2 sb
    have t2 : h2.get? s.heap.objs.size = some { cls := .type "tuple", data := .seq #[.int (k + (i : Int)) tk, y] } := (sb.2 _ (Nat.ne_of_gt lte)).trans hT
    have new : ObjOk X.prog X.w (upd H s.heap.objs.size (.tup [.int (k + (i : Int)), x])) h2 s.heap.objs.size (.tup [.int (k + (i : Int)), x]) :=
      ⟨(by show 2 ≤ sizeLine; decide), [.int (k + (i : Int)) tk, y], .cons ⟨_, rfl⟩ (.cons ru .nil), ⟨_, t2, rfl, _, rfl⟩⟩
    have I1 : Inv X pins σ (upd H s.heap.objs.size (.tup [.int (k + (i : Int)), x])) { s with heap := h2, toks := tk + 1 } := by
      refine I.turnedNew (ch := [e, it]) (fun b ob nb q => ?_) hf (Nat.le_refl _) new
      have n1 : b ≠ e := fun z => nb (by simp [z])
      have n2 : b ≠ it := fun z => nb (by simp [z])
      exact (sb.2 b n1).trans (keep b ob n1 n2 q)
    refine ⟨.ref s.heap.objs.size, _, I1, rfl, ⟨_, x, rfl, I.hok.fresh (Nat.le_refl _), rfl, fun ys hy2 => ?_⟩, ⟨⟨y, ?_⟩, hst.1.at fun o q => (sb.2 it (Ne.symm hei)).trans q, hei, hai, hae⟩, fun b hb => ?_⟩
    · rw [I.tuple_inj hy2 hq]
      exact hx
    · have e1 : k + ((i + 1 : Nat) : Int) = k + (i : Int) + 1 := by omega
      rw [e1]
      exact he2
    · have lb : b < s.heap.objs.size := by
        rcases two_mem hb with z | z
        · rw [z]
          exact lte
        · rw [z]
          exact lti
      rw [upd_ne (Nat.ne_of_lt lb)]
      exact (hf b hb).1
  done := by
    intro X hP hw hK hc i pins s σ H E I hf st hg
    subst hP hw hK
    obtain ⟨⟨old, he⟩, hit, hei, hai, hae⟩ := st
    obtain ⟨xs, hq, hx⟩ := hg
    obtain ⟨its, rv, p, hz⟩ := I.tuple hq
    obtain ⟨f0, f1, f2, f3, f4, f5⟩ := hf it (by simp)
    have hl := rv.length
    have D := Draws.tuple (prog := X.prog) (w := X.w) (A := X.A.in1) (I.ok.hd hc) it a hai its.toArray
    have c : i = its.toArray.size := by
      simp
      omega
    subst c
    exact wpAny_pyNext_enum_endD D he ⟨hit, (show s.heap.IsTuple a its.toArray from p)⟩ fun h' eb => ⟨rfl, I.turned (t' := s.toks) (fun b o hb q => eb b o hb q) f0 f1 f3 f4 f5⟩
  self := fun A i s Q E st h => by
    obtain ⟨⟨_, he⟩, _⟩ := st
    exact wpAny_pyIter_enum he h
/-- what enumerate(xs, start=k) walks -/
def iEnumK (K : PySem.W.Frag) (ta tk : TA) : TI := fun σ H R => ta σ H fun vs H1 => tk σ H1 fun zs H2 => ∃ (a : Addr) (k : Int), vs = [.ref a] ∧ zs = [.int k] ∧ (0 ≤ k ∧ k ≤ 1000) ∧
  ((∃ xs, SqL K H2 a xs ∧ R (IteL K k a) H2) ∨ (∃ xs, SqT K H2 a xs ∧ R (IteT K k a) H2))
theorem pi_enumK {X : Cx} {e ke : Expr} {ta tk : TA} {p pos tpos kpos : Pos} {elts : List Expr} {kk : Nat} (gl : Gl X "enumerate") (no : X.mg "enumerate" = none) (ha : PA X [e] ta) (hk : PK X [⟨some (Str.ofString "start"), ke, kpos⟩] tk)
    (h1 : backTo pos (starEach [e] X.env) = (false, eval e X.env) :: backTo pos (starEach [] X.env) := by rfl) (h2 : (backTo pos (starEach [e] X.env)).any (·.1) = false := by rfl)
    (h3 : (backToKw pos (keywordEach [⟨some (Str.ofString "start"), ke, kpos⟩] X.env)).all (·.1.isSome) = true := by rfl)
    (h4 : (backToKw pos (keywordEach [⟨some (Str.ofString "start"), ke, kpos⟩] X.env)).any (·.1.isNone) = false := by rfl)
    (h5 : (backToKw pos (keywordEach [⟨some (Str.ofString "start"), ke, kpos⟩] X.env)).filterMap (·.1) = [Str.ofString "start"] := by rfl) :
    PI X (.Tuple elts kk tpos) (.Call (.Name "enumerate" p) [e] [⟨some (Str.ofString "start"), ke, kpos⟩] pos) (iEnumK X.K ta tk) := by
  refine ⟨fun pins s σ H R I h => ?_⟩
  refine wpAny_Call_Name_kw (ld_blt I gl no boot_enumerate ?_ (by decide) (by decide))
  refine type_with_kw h2 h4 ?_
  have run := ha.run pos pins s σ H _ I h
  rw [h1] at run ⊢
  refine evalArgs_kwB h3 (thn run ?_)
  intro us s1 got
  obtain ⟨vs, H1, I1, r1, q1⟩ := got
  refine thn (hk.run pos pins s1 σ H1 _ I1 q1) ?_
  intro ws s2 got2
  obtain ⟨zs, H2, I2, r2, a, k, rfl, rfl, hkb, q2⟩ := got2
  rw [h5]
  obtain ⟨u, rfl, ru⟩ := vals1 r1
  obtain ⟨v, rfl, rv⟩ := vals1 r2
  cases (show u = Value.ref a from ru)
  obtain ⟨t, rfl⟩ := rv
  have fin : ∀ (h' : Heap) (J : It) (tn : Nat → Heap → Prop), (∀ b o, s2.heap.get? b = some o → h'.get? b = some o) → Turn X.prog X.w X.K (.Tuple elts kk tpos) J [s2.heap.objs.size + 1, s2.heap.objs.size] (s2.heap.objs.size + 1) tn → tn 0 h' → R J H2 →
      PIE X pins σ (.Tuple elts kk tpos) R (.ref (s2.heap.objs.size + 1)) { s2 with heap := h' } := by
    intro h' J tn keep tr t0 q
    have I3 : Inv X pins σ H2 { s2 with heap := h' } := I2.kept (t' := s2.toks) keep
    refine ⟨s2.heap.objs.size + 1, [s2.heap.objs.size + 1, s2.heap.objs.size], tn, J, H2, rfl, I3, tr, t0, fun b hb => ?_, q⟩
    have le : s2.heap.objs.size ≤ b := by
      rcases two_mem hb with z | z
      · rw [z]
        exact Nat.le_add_right _ _
      · rw [z]
        exact Nat.le_refl _
    exact I2.fpOk le (I2.hok.fresh le)
  have k0 : k + ((0 : Nat) : Int) = k := by simp
  rcases q2 with ⟨xs, hs, q⟩ | ⟨xs, hs, q⟩
  · obtain ⟨its, _, p', _⟩ := I2.list hs
    have la : a < s2.heap.objs.size := p'.lt
    refine enum_begins_start (begins_list a its.toArray) p'.isList (by omega) (by omega) fun h' he hit hsz keep => wpAny_pyIter_enum he ?_
    exact fin h' _ _ keep (turnL k a _ _) ⟨⟨.none, by rw [k0]; exact he⟩, ⟨_, hit, rfl, rfl⟩, Nat.succ_ne_self _, Nat.ne_of_lt la, Nat.ne_of_lt (Nat.lt_succ_of_lt la)⟩ q
  · obtain ⟨its, _, p', _⟩ := I2.tuple hs
    have la : a < s2.heap.objs.size := p'.lt
    refine enum_begins_start (begins_tuple a its.toArray) (show s2.heap.IsTuple a its.toArray from p') (by omega) (by omega) fun h' he hit hsz keep => wpAny_pyIter_enum he ?_
    exact fin h' _ _ keep (turnT k a _ _) ⟨⟨.none, by rw [k0]; exact he⟩, ⟨_, hit, rfl, rfl⟩, Nat.succ_ne_self _, Nat.ne_of_lt la, Nat.ne_of_lt (Nat.lt_succ_of_lt la)⟩ q
end
end Ver
namespace Ver
open PySem PySem.Spec PyProof.Rows L2 Evl
/-! ### zip of two texts, in new pairs -/
def Izs (x y : Str) : It where
  go := fun i H => i < x.cps.size ∧ i < y.cps.size
  yld := fun i H v H' => ∃ T c d, v = .ref T ∧ H T = none ∧ H' = upd H T (.tup [.str ⟨#[c]⟩, .str ⟨#[d]⟩]) ∧ x.cps[i]? = some c ∧ y.cps[i]? = some d
  stop := fun i H => i ≤ x.cps.size ∧ i ≤ y.cps.size ∧ (i = x.cps.size ∨ i = y.cps.size)
section
variable {P : Program} {w : World} {K : PySem.W.Frag} {elts : List Expr} {kk : Nat} {tpos : Pos}
theorem five_mem {c z a b d e : Addr} (h : c ∈ [z, a, b, d, e]) : c = z ∨ c = a ∨ c = b ∨ c = d ∨ c = e := by simpa using h
theorem si_at {h h' : Heap} {i : Addr} {n : String} {x : Str} {t : Tok} {k : Nat} (s : h.IsStrIter i n x t k) (f : ∀ o, h.get? i = some o → h'.get? i = some o) : h'.IsStrIter i n x t k := by
  obtain ⟨o, e, r⟩ := s
  exact ⟨o, f o e, r⟩
theorem turnZs (x y : Str) (t u : Tok) (z TI TO i1 i2 : Addr) (S : ZipSep2 z TI TO i1 i2 [i1] [i2]) : Turn P w K (.Tuple elts kk tpos) (Izs x y) [z, TI, TO, i1, i2] z
    (fun i h => IsZip h z TI TO .none ∧ IsTupOf2 h TI (.ref i1) (.ref i2) ∧ (∃ a1 a2, IsTupOf2 h TO a1 a2) ∧ h.IsStrIter i1 (strIterType x) x t i ∧ h.IsStrIter i2 (strIterType y) y u i) where
  mem := List.mem_cons_self ..
  obj := fun i h st c hc => by
    obtain ⟨hz, hTI, ⟨a1, a2, hTO⟩, ⟨o1, e1, _, d1⟩, ⟨o2, e2, _, d2⟩⟩ := st
    rcases five_mem hc with q | q | q | q | q
    · rw [q]; exact ⟨_, hz, fun v q => nomatch q⟩
    · rw [q]; exact ⟨_, hTI, fun v q => nomatch q⟩
    · rw [q]; exact ⟨_, hTO, fun v q => nomatch q⟩
    · rw [q]; exact ⟨o1, e1, fun v q => by rw [d1] at q; cases q⟩
    · rw [q]; exact ⟨o2, e2, fun v q => by rw [d2] at q; cases q⟩
  keep := fun i h h' st k => by
    obtain ⟨hz, hTI, ⟨a1, a2, hTO⟩, h1, h2⟩ := st
    exact ⟨k z (by simp) _ hz, k TI (by simp) _ hTI, ⟨a1, a2, k TO (by simp) _ hTO⟩, si_at h1 fun o q => k i1 (by simp) o q, si_at h2 fun o q => k i2 (by simp) o q⟩
  item := by
    intro X hP hw hK hc i pins s σ H E I hf st hg
    subst hP hw hK
    obtain ⟨hz, hTI, ⟨a1, a2, hTO⟩, h1, h2⟩ := st
    have D1 := Draws.text (prog := X.prog) (w := X.w) (A := X.A.in1) (I.ok.hd hc) i1 x t
    have D2 := Draws.text (prog := X.prog) (w := X.w) (A := X.A.in1) (I.ok.hd hc) i2 y u
    have hzl : z < s.heap.objs.size := Heap.lt_size hz
    have l1 : i1 < s.heap.objs.size := by
      obtain ⟨o, e, _⟩ := h1
      exact Heap.lt_size e
    have l2 : i2 < s.heap.objs.size := by
      obtain ⟨o, e, _⟩ := h2
      exact Heap.lt_size e
    refine wpAny_pyNext_zipD2_item S D1 D2 hz hTI hTO h1 h2 hg.1 hg.2 fun y1 y2 h' tk ⟨c, u1, hc1, ev1⟩ ⟨d, u2, hd1, ev2⟩ b1 b2 s1 s2 hT hsz hk => ?_
    subst ev1
    subst ev2
    refine ⟨_, rfl, wpAny_letOwnedTupleGo_zip (s := { s with heap := h', toks := tk }) b1 fun h'' z'' sb => ?_⟩
    have hT2 : h''.get? s.heap.objs.size = some { cls := .type "tuple", data := .seq #[.str ⟨#[c]⟩ u1, .str ⟨#[d]⟩ u2] } := (sb.2 _ (Nat.ne_of_gt hzl)).trans hT
    have new : ObjOk X.prog X.w (upd H s.heap.objs.size (.tup [.str ⟨#[c]⟩, .str ⟨#[d]⟩])) h'' s.heap.objs.size (.tup [.str ⟨#[c]⟩, .str ⟨#[d]⟩]) :=
      ⟨(by show 2 ≤ sizeLine; decide), [.str ⟨#[c]⟩ u1, .str ⟨#[d]⟩ u2], .cons ⟨_, rfl⟩ (.cons ⟨_, rfl⟩ .nil), ⟨_, hT2, rfl, _, rfl⟩⟩
    have I1 : Inv X pins σ (upd H s.heap.objs.size (.tup [.str ⟨#[c]⟩, .str ⟨#[d]⟩])) { s with heap := h'', toks := tk } := by
      refine I.turnedNew (ch := [z, TI, TO, i1, i2]) (fun b ob nb q => ?_) hf (Nat.le_refl _) new
      exact (sb.2 b (fun q' => nb (by simp [q']))).trans (hk b ob (fun q' => nb (by simp [q'])) (fun q' => nb (by simp [q'])) (fun q' => nb (by simp [q'])) (fun q' => nb (by simp [q'])) q)
    refine ⟨.ref s.heap.objs.size, _, I1, rfl, ⟨_, c, d, rfl, I.hok.fresh (Nat.le_refl _), rfl, hc1, hd1⟩, ⟨z'', ?_, ⟨.str ⟨#[c]⟩ u1, .str ⟨#[d]⟩ u2, ?_⟩, ?_, ?_⟩, fun b hb => ?_⟩
    · exact (sb.2 _ S.TIz).trans (hk _ _ S.TIz S.TITO S.TIi1 S.TIi2 hTI)
    · exact (sb.2 _ S.TOz).trans b2
    · exact si_at s1 fun o q => (sb.2 _ S.zi1.symm).trans q
    · exact si_at s2 fun o q => (sb.2 _ S.zi2.symm).trans q
    · have hlt : b < s.heap.objs.size := by
        rcases five_mem hb with q | q | q | q | q
        · rw [q]; exact hzl
        · rw [q]; exact Heap.lt_size hTI
        · rw [q]; exact Heap.lt_size hTO
        · rw [q]; exact l1
        · rw [q]; exact l2
      rw [upd_ne (Nat.ne_of_lt hlt)]
      exact (hf b hb).1
  done := by
    intro X hP hw hK hc i pins s σ H E I hf st hg
    subst hP hw hK
    obtain ⟨hz, hTI, ⟨a1, a2, hTO⟩, h1, h2⟩ := st
    have D1 := Draws.text (prog := X.prog) (w := X.w) (A := X.A.in1) (I.ok.hd hc) i1 x t
    have D2 := Draws.text (prog := X.prog) (w := X.w) (A := X.A.in1) (I.ok.hd hc) i2 y u
    exact wpAny_pyNext_zipD2_end S D1 D2 hz hTI hTO h1 h2 hg.1 hg.2.1 hg.2.2 fun h' tk hk => ⟨rfl, I.turnedL (t' := tk) (ch := [z, TI, TO, i1, i2]) (fun c o hb q =>
      hk c o (fun q' => hb (by simp [q'])) (fun q' => hb (by simp [q'])) (fun q' => hb (by simp [q'])) (fun q' => hb (by simp [q'])) q) hf⟩
  self := fun A i s Q E st h => wpAny_pyIter_zip st.1 h
theorem ne_nat {a b : Nat} (h : a ≠ b) : (show Addr from a) ≠ (show Addr from b) := h
theorem sep_n (n : Nat) : ZipSep2 (n + 4) (n + 2) (n + 3) n (n + 1) [n] [n + 1] :=
  ⟨ne_nat (by omega), ne_nat (by omega), ne_nat (by omega), ne_nat (by omega), List.mem_singleton.mpr rfl, fun h => absurd (List.mem_singleton.mp h) (ne_nat (by omega)), fun h => absurd (List.mem_singleton.mp h) (ne_nat (by omega)),
    ne_nat (by omega), List.mem_singleton.mpr rfl, fun h => absurd (List.mem_singleton.mp h) (ne_nat (by omega)), fun h => absurd (List.mem_singleton.mp h) (ne_nat (by omega)), fun h => absurd (List.mem_singleton.mp h) (ne_nat (by omega)), fun h => absurd (List.mem_singleton.mp h) (ne_nat (by omega))⟩
def iZipS (ta : TA) : TI := fun σ H R => ta σ H fun vs H1 => ∃ x y, vs = [.str x, .str y] ∧ R (Izs x y) H1
theorem pi_zipS {X : Cx} {e e2 : Expr} {ta : TA} {p pos tpos : Pos} {elts : List Expr} {kk : Nat} (hg : Gl X "zip") (hm : X.mg "zip" = none) (ha : PA X [e, e2] ta)
    (hs : starEach [e, e2] X.env = (false, eval e X.env) :: starEach [e2] X.env := by rfl) (hpl : (backTo pos (starEach [e2] X.env)).any (·.1) = false := by rfl) :
    PI X (.Tuple elts kk tpos) (.Call (.Name "zip" p) [e, e2] [] pos) (iZipS ta) := by
  refine ⟨fun pins s σ H R I h => ?_⟩
  refine Call_ (ld_blt I hg hm PyProof.Rows.boot_zip (PyProof.Rows.callWith_type1 (thn (ha.run pos pins s σ H _ I h) fun us s1 ⟨vs, H1, I1, r1, q1⟩ => ?_) hs hpl))
  obtain ⟨x, y, ex, q⟩ := q1
  subst ex
  cases r1 with
  | cons r rr =>
    cases rr with
    | cons r' rr =>
      cases rr
      obtain ⟨t, rfl⟩ := r
      obtain ⟨u, rfl⟩ := r'
      refine zip_begins2 (begins_text x t) (begins_text y u) trivial trivial fun h' hz hTI hTO g1 g2 hsz hk => wpAny_pyIter_zip hz ?_
      have I2 : Inv X pins σ H1 { s1 with heap := h' } := I1.kept (t' := s1.toks) hk
      have S := sep_n s1.heap.objs.size
      refine ⟨s1.heap.objs.size + 4, [s1.heap.objs.size + 4, s1.heap.objs.size + 2, s1.heap.objs.size + 3, s1.heap.objs.size, s1.heap.objs.size + 1], _, _, H1, rfl, I2, turnZs x y t u _ _ _ _ _ S, ⟨hz, hTI, ⟨_, _, hTO⟩, ⟨_, g1, rfl, rfl⟩, ⟨_, g2, rfl, rfl⟩⟩, fun c hcm => ?_, q⟩
      have hle : s1.heap.objs.size ≤ c := by
        rcases five_mem hcm with z | z | z | z | z
        · rw [z]; exact Nat.le_add_right _ _
        · rw [z]; exact Nat.le_add_right _ _
        · rw [z]; exact Nat.le_add_right _ _
        · rw [z]; exact Nat.le_refl _
        · rw [z]; exact Nat.le_add_right _ _
      exact I1.fpOk hle (I1.hok.fresh hle)
end
end Ver
namespace Ver
open PySem PySem.Spec PyProof.Rows L2 Evl
section
open AutoSeq1 (wpAny_loadPart')
theorem meets_enumerate_newT (l : Addr) (items : Array Value) (n : Nat) (dct : Option Addr) (sl : Array (Option Value)) :
    Meets (Builtin.«enumerate.__new__» ⟨[.type "enumerate", .ref l], []⟩) (fun _ R s => s.heap.get? l = some { cls := .type "tuple", dict := dct, data := .seq items n, slots := sl } ∧
      R (.ok (.ret (.ref (s.heap.push { cls := .type "tuple_iterator", data := .fields #[.ref l, .int 0 0] }).objs.size)))
        { s with heap := (s.heap.push { cls := .type "tuple_iterator", data := .fields #[.ref l, .int 0 0] }).push { cls := .type "enumerate", data := .fields #[.none, .bool false, .ref s.heap.objs.size, rawInt 0, .none, .none] } }) :=
  .of_wp fun prog w A R s h => by
    obtain ⟨hp, g, d, tk, os⟩ := s; obtain ⟨hl, h⟩ := h
    have hsub := sub_enumerate
    have hL : Heap.IsTuple (Shared.heap ⟨hp, g, d, tk, os⟩) l items := ⟨_, hl, rfl, n, rfl⟩
    wp_walk using wpAny_loadPart' hl
    refine wpAny_stack_any fun st => wpAny_pure ?_
    split
    · rename_i c _ _ _ _ _
      cases (c == Value.type "enumerate")
      · wp_walk using wpAny_loadPart' hl, wpAny_pyIter_tuple hL
        exact ⟨_, rfl, h⟩
      · wp_walk using wpAny_loadPart' hl, wpAny_pyIter_tuple hL
        exact ⟨_, rfl, h⟩
    · wp_walk using wpAny_loadPart' hl, wpAny_pyIter_tuple hL
      exact ⟨_, rfl, h⟩
end
section
variable {prog : Program} {w : World} {A : Around} {E : Value → Shared → Prop} {s : Shared}
theorem call_enumerate_tuple {l : Addr} {items : Array Value} {Q : Value → Shared → Prop} (hL : s.heap.IsTuple l items)
    (h : ∀ h', IsEnum h' (s.heap.objs.size + 1) s.heap.objs.size 0 .none → h'.get? s.heap.objs.size = some { cls := .type "tuple_iterator", data := .fields #[.ref l, .int 0 0] } → h'.objs.size = s.heap.objs.size + 2 →
      (∀ b o, s.heap.get? b = some o → h'.get? b = some o) → Q (.ref (s.heap.objs.size + 1)) { s with heap := h' }) :
    wpAny (model prog w) A (call (.type "enumerate") [.ref l]) Q E s := by
  obtain ⟨⟨c, dct, dt, sl⟩, hl, hc, n, hd⟩ := hL
  replace hc : c = .type "tuple" := hc
  replace hd : dt = .seq items n := hd
  subst hc hd
  refine callType_new F.called_enumerate (by decide) (F.typeCall_enumerate_1 _) (F.newCall_enumerate_1 _) (fun obj => F.args_object_init_2 obj _) F.entry_enumerate_new
    (meets_enumerate_newT l items n dct sl) ⟨hl, ?_⟩
  have hz : (s.heap.push { cls := .type "tuple_iterator", data := .fields #[.ref l, .int 0 0] }).objs.size = s.heap.objs.size + 1 := Heap.size_push ..
  show _ ∧ _
  rw [hz]
  have he : IsEnum ((s.heap.push { cls := .type "tuple_iterator", data := .fields #[.ref l, .int 0 0] }).push
      { cls := .type "enumerate", data := .fields #[.none, .bool false, .ref s.heap.objs.size, rawInt 0, .none, .none] }) (s.heap.objs.size + 1) s.heap.objs.size 0 .none := by
    have := Heap.get?_push_size (s.heap.push { cls := .type "tuple_iterator", data := .fields #[.ref l, .int 0 0] })
      (o := { cls := .type "enumerate", data := .fields #[.none, .bool false, .ref s.heap.objs.size, rawInt 0, .none, .none] }) rfl
    rw [hz] at this; exact this
  refine ⟨⟨_, he, rfl⟩, h _ he (Heap.get?_push_of_some _ (Heap.get?_push_size _ rfl)) (by rw [Heap.size_push, hz]) fun b o x => Heap.get?_push_of_some _ (Heap.get?_push_of_some _ x)⟩
end
def iEnumT (K : PySem.W.Frag) (ta : TA) : TI := fun σ H R => ta σ H fun vs H1 => ∃ (a : Addr) (xs : List V), vs = [.ref a] ∧ SqT K H1 a xs ∧ R (IteT K 0 a) H1
theorem pi_enumT {X : Cx} {e : Expr} {ta : TA} {p pos tpos : Pos} {elts : List Expr} {kk : Nat} (hg : Gl X "enumerate") (hm : X.mg "enumerate" = none) (ha : PA X [e] ta) (hs : starEach [e] X.env = [(false, eval e X.env)] := by rfl) :
    PI X (.Tuple elts kk tpos) (.Call (.Name "enumerate" p) [e] [] pos) (iEnumT X.K ta) := by
  refine ⟨fun pins s σ H R I h => ?_⟩
  refine Call_ (ld_blt I hg hm boot_enumerate (PyProof.Rows.callWith_type1 (thn (ha.run pos pins s σ H _ I h) fun us s1 ⟨vs, H1, I1, r1, q1⟩ => ?_) hs rfl))
  obtain ⟨a, xs, ex, hq, q⟩ := q1
  subst ex
  cases r1 with
  | cons r rr =>
    cases rr
    cases r
    obtain ⟨its, rv, p', hz⟩ := I1.tuple hq
    have la : a < s1.heap.objs.size := p'.lt
    refine call_enumerate_tuple (show s1.heap.IsTuple a its.toArray from p') fun h' he hit hsz hk => wpAny_pyIter_enum he ?_
    have I2 : Inv X pins σ H1 { s1 with heap := h' } := I1.kept (t' := s1.toks) hk
    have k0 : (0 : Int) + ((0 : Nat) : Int) = 0 := by simp
    refine ⟨s1.heap.objs.size + 1, [s1.heap.objs.size + 1, s1.heap.objs.size], _, _, H1, rfl, I2, turnT 0 a (s1.heap.objs.size + 1) s1.heap.objs.size, ⟨⟨.none, by rw [k0]; exact he⟩, ⟨_, hit, rfl, rfl⟩, Nat.succ_ne_self _, Nat.ne_of_lt la, Nat.ne_of_lt (Nat.lt_succ_of_lt la)⟩, fun b hb => ?_, q⟩
    have hle : s1.heap.objs.size ≤ b := by
      rcases two_mem hb with z | z
      · rw [z]; exact Nat.le_add_right _ _
      · rw [z]; exact Nat.le_refl _
    exact I1.fpOk hle (I1.hok.fresh hle)
/-! ### what follows: readings of walks with pairs -/
section
variable {K : PySem.W.Frag}
theorem walk_zs {x y : Str} : Walk (Izs x y) (min x.cps.size y.cps.size) (fun _ => True) (YPair (fun i => (x.cps.toList[i]?).map fun c => V.str ⟨#[c]⟩) (fun i => (y.cps.toList[i]?).map fun c => V.str ⟨#[c]⟩)) := by
  refine ⟨fun i _ hi q => ?_, fun _ q => ?_, fun i H v H' hi q y' => ?_⟩
  · show i < x.cps.size ∧ i < y.cps.size
    omega
  · show _ ≤ x.cps.size ∧ _ ≤ y.cps.size ∧ _
    omega
  obtain ⟨T, c, d, h1, h2, h3, h4, h5⟩ := y'
  refine ⟨T, .str ⟨#[c]⟩, .str ⟨#[d]⟩, h1, h2, h3, ?_, ?_⟩
  · show Option.map _ (x.cps.toList[i]?) = _
    rw [Array.getElem?_toList, h4]
    rfl
  · show Option.map _ (y.cps.toList[i]?) = _
    rw [Array.getElem?_toList, h5]
    rfl
end
end Ver
namespace Ver
open PySem PySem.Spec PyProof.Rows L2 Evl
open PySem.Builtin PySem.Builtin.Float
/-! ### f"{n:b}" -/
def binS (n : Nat) : Str := ⟨((Nat.toDigits 2 n).map Char.toNat).toArray⟩
def fB : FormatSpec := { align := 62, type := some 98 }
theorem parse_b (name : String) : parseFormatSpec (Str.ofString "b").cps.toList name 62 = .ok fB := by rfl
section
variable {prog : Program} {w : World} {A : Around} {E : Value → Shared → Prop} {s : Shared}
theorem plain_field {D : List Nat} (h : D.isEmpty = false) : intField' { align := 62, type := some 98 } false [] D [] 4 = ⟨D.toArray⟩ := by
  unfold intField'
  simp [h]
theorem field_b {n : Nat} {t : Tok} {sp : Str} {f : FormatSpec} {Q : Value → Shared → Prop} (hz : (binS n).length ≤ sizeLine) (sz : sp.length ≤ sizeLine) (hne : (sp.length == 0) = false)
    (hasc : ((sp.cps.toList.drop 1).any (· ≥ 128) || (sp.cps.getD 0 0 ≥ 128 && !([60, 62, 61, 94] : List Nat).contains (sp.cps.getD 1 0))) = false)
    (hp : ∀ name, parseFormatSpec sp.cps.toList name 62 = .ok f) (hf : f = { align := 62, type := some 98 })
    (h : ∀ k1 k2, Q (.str (binS n) k1) { s with toks := k2 }) :
    wpAny (model prog w) A (formatField (.int (n : Int) t) sp) Q E s := by
  show wpAny _ _ (holding [.int (n : Int) t] (pyFormat (.int (n : Int) t) sp)) Q E s
  refine wpAny_holding ?_
  unfold pyFormat
  refine wpAny_bind (wpAny_mkStr ?_ sz)
  have isI : ∀ s' : Shared, s'.TypeIs (.int (n : Int) t) "int" := fun s' => typeIs_int s' (n : Int) t
  refine wpAny_bind (m := callSpecial? (.int (n : Int) t) (Str.ofString "__format__") [.str sp s.toks])
    (wpAny_callSpecial?_slot (name := Str.ofString "__format__") (isI _) slot_int_format ?_)
  refine wpAny_call (codeAny_call_builtin slot_int_format.plain entry_int_format
    (slot_int_format.check _ _ _ _ _ _ _ _ (isI _) (args_int_format _ _) ?_))
  unfold Builtin.«int.__format__»
  have hv : (Value.str sp s.toks == Value.none) = false := rfl
  simp only [selfAndOne, noKeywords, Int.intOfSelf, asInt?, asStr?, List.isEmpty_nil, if_true, pure_bind, bind_pure, bind_assoc, hne, hasc, Bool.false_eq_true, if_false, hv]
  refine wpAny_bind (wpAny_typeNameOf (T := "str") (typeIs_str _ _ _) (by decide) ?_)
  intro kind
  refine wpAny_bind (wpAny_typeNameOfCut_int ?_)
  have hty : f.type.getD (if sp.cps.back? == some 0 then 0 else 100) = 98 := by
    rw [hf]
    rfl
  have hpr : f.precision = none := by rw [hf]
  have hnz : f.noNeg0 = false := by rw [hf]
  have hw : f.width = none := by rw [hf]
  have hal : f.alt = false := by rw [hf]
  simp only [hp, hty]
  rw [if_pos (by decide)]
  show wpAny _ _ (if _ then _ else _) _ _ _
  rw [if_neg (by simp [hpr])]
  show wpAny _ _ (if _ then _ else _) _ _ _
  rw [if_neg (by simp [hnz])]
  show wpAny _ _ (if _ then _ else _) _ _ _
  rw [if_neg (by decide)]
  show wpAny _ _ (if _ then _ else _) _ _ _
  rw [if_neg (by decide)]
  show wpAny _ _ (if _ then _ else _) _ _ _
  rw [if_neg (by simp [hw])]
  show wpAny _ _ (retStr _) _ _ _
  unfold retStr
  have neg : decide ((n : Int) < 0) = false := by
    rw [decide_eq_false_iff_not]
    omega
  have ab : ((n : Int)).natAbs = n := Int.natAbs_natCast n
  have up : (fun c : Char => (if ((98 : Nat) == 88) = true then c.toUpper else c).toNat) = Char.toNat := by
    funext c
    rfl
  have b2 : ((2 : Nat) == 10) = false := rfl
  simp only [hal, neg, ab, up, b2, Bool.false_eq_true, if_false]
  subst hf
  have len1 := tDigits_len_ge 2 n
  unfold binS at hz h
  generalize hD : (Nat.toDigits 2 n).map Char.toNat = D at hz h ⊢
  have hD2 : D.isEmpty = false := by
    rw [← hD]
    cases hE : Nat.toDigits 2 n with
    | nil =>
      rw [hE] at len1
      exact absurd len1 (by decide)
    | cons x r => rfl
  refine wpAny_bind (wpAny_mkStr (wpAny_pure ?_) ?hs2)
  case hs2 =>
    show (intField' { align := 62, type := some 98 } false [] D [] 4).length ≤ sizeLine
    rw [plain_field hD2]
    exact hz
  have e : ∀ (k1 : Tok) (k2 : Nat), Q (.str (intField' { align := 62, type := some 98 } false [] D [] 4) k1) { s with toks := k2 } := by
    rw [plain_field hD2]
    exact h
  dsimp only
  refine wpAny_bind (wpAny_isInstance (typeIs_str _ _ _) isSubtype_str_str ?_)
  exact wpAny_pure (e _ _)
end
/-- f"{n:b}" of a number that is not below 0 -/
def tBin (te : TE) : TE := fun σ H Q => te σ H fun x H1 => ∃ n : Nat, x = .int (n : Int) ∧ n < 2 ^ 1000 ∧ Q (.str (binS n)) H1
theorem binS_len {n : Nat} (h : n < 2 ^ 1000) : (binS n).length ≤ sizeLine := by
  have e : (binS n).length = (bins n).length := by
    unfold binS bins Str.length
    simp
  rw [e]
  exact Nat.le_trans (bins_len (by decide) h) (by decide)
theorem spec_facts : (Str.ofString "b").length ≤ sizeLine ∧ ((Str.ofString "b").length == 0) = false ∧
    (((Str.ofString "b").cps.toList.drop 1).any (· ≥ 128) || ((Str.ofString "b").cps.getD 0 0 ≥ 128 && !([60, 62, 61, 94] : List Nat).contains ((Str.ofString "b").cps.getD 1 0))) = false := by decide +kernel
theorem pe_bin {X : Cx} {e se : Expr} {te : TE} {pos : Pos} (he : PE X e te) (hs : PE X se (tC (.str (Str.ofString "b")))) : PE X (.FormattedValue e (-1) (some se) pos) (tBin te) := by
  refine ⟨fun pins s σ H Q I h => ?_⟩
  refine wpAny_FormattedValue_spec (thn (he.run pins s σ H _ I h) ?_)
  intro v s1 got
  obtain ⟨x, H1, I1, r1, n, rfl, hn, q⟩ := got
  obtain ⟨t, rfl⟩ := r1
  refine thn (hs.run pins s1 σ H1 (fun y H2 => y = .str (Str.ofString "b") ∧ Q (.str (binS n)) H2) I1 ⟨rfl, q⟩) ?_
  intro r s2 got2
  obtain ⟨y, H2, I2, r2, rfl, q2⟩ := got2
  obtain ⟨t2, rfl⟩ := r2
  obtain ⟨z1, z2, z3⟩ := spec_facts
  exact ⟨_, t2, rfl, field_b (binS_len hn) z1 z2 z3 parse_b rfl fun k1 k2 => ⟨.str (binS n), H2, I2.tok k2, ⟨k1, rfl⟩, q2⟩⟩
theorem ev_bin {te : TE} {σ : L2.St} {H : Hp} {n : Nat} (h : Ev te σ H (.int (n : Int))) (hn : n < 2 ^ 1000) : Ev (tBin te) σ H (.str (binS n)) := fun H1 e Q q =>
  h H1 e _ fun H2 e2 => ⟨n, rfl, hn, q H2 e2⟩
end Ver
namespace Ver
open PySem PySem.Spec PyProof.Rows L2 Evl
section
variable {P : Program} {w : World} {K : PySem.W.Frag} {mg : Str → Option Value} {base : Heap}
theorem walk_eL {k : Int} {a : Addr} {xs : List V} : Walk (IteL K k a) xs.length (fun H => SqL K H a xs) (YPair (fun i => some (.int (k + (i : Int)))) (fun i => xs[i]?)) := by
  refine ⟨fun i _ hi q => ⟨xs, xs[i], q, by simp [hi]⟩, fun _ q => ⟨xs, q, rfl⟩, fun i H v H' _ q y => ?_⟩
  obtain ⟨T, x, h1, h2, h3, h4⟩ := y
  exact ⟨T, .int (k + (i : Int)), x, h1, h2, h3, rfl, h4 xs q⟩
theorem walk_eT {k : Int} {a : Addr} {xs : List V} : Walk (IteT K k a) xs.length (fun H => SqT K H a xs) (YPair (fun i => some (.int (k + (i : Int)))) (fun i => xs[i]?)) := by
  refine ⟨fun i _ hi q => ⟨xs, xs[i], q, by simp [hi]⟩, fun _ q => ⟨xs, q, rfl⟩, fun i H v H' _ q y => ?_⟩
  obtain ⟨T, x, h1, h2, h3, h4⟩ := y
  exact ⟨T, .int (k + (i : Int)), x, h1, h2, h3, rfl, h4 xs q⟩
theorem s_forE {tl tk : TA} {tb : TS} {D : Ends} {σ : L2.St} {H : Hp} {a : Addr} {k : Int} {xs : List V} {j1 j2 : Nat} (h : EvA tl σ H [.ref a]) (hk : EvA tk σ H [.int k]) (hb : 0 ≤ k ∧ k ≤ 1000) (hx : SqL K H a xs ∨ SqT K H a xs)
    (Pv : Nat → L2.St → Hp → Prop) (h0 : ∀ H1, Ex H H1 → Pv 0 σ H1) (hG : ∀ i σ' H', Pv i σ' H' → Ex H H')
    (hs : ∀ i x σ' H' H2, xs[i]? = some x → Pv i σ' H' → Ex H' H2 → tb { D with nx := Pv (i + 1), ct := Pv (i + 1), bk := D.nx } ((σ'.set j1 (some (.int (k + (i : Int))))).set j2 (some x)) H2)
    (hd : ∀ σ' H', Pv xs.length σ' H' → D.nx σ' H') : tFor (iEnumK K tl tk) (gTup K 2 (gCons (gName j1) (gCons (gName j2) gNil))) tb D σ H := by
  refine h H (Ex.refl H) _ fun H1 e1 => hk H1 e1 _ fun H2 e2 => ?_
  have e12 := e1.trans e2
  have step : ∀ (i : Nat) (x : V) (σ' : L2.St) (H3 H4 : Hp), i < xs.length → Pv i σ' H3 → YPair (fun i => some (.int (k + (i : Int)))) (fun i => xs[i]?) i H3 x H4 →
      gTup K 2 (gCons (gName j1) (gCons (gName j2) gNil)) x σ' H4 fun σ2 H5 => tb { D with nx := Pv (i + 1), ct := Pv (i + 1), bk := D.nx } σ2 H5 := by
    intro i v σ' H3 H4 _ p y
    obtain ⟨T, x, z, rfl, hT, rfl, e3, e4⟩ := y
    cases e3
    exact ⟨T, [.int (k + (i : Int)), z], rfl, st_of upd_same, rfl, _, _, rfl, _, _, rfl, rfl, hs i z σ' H3 _ e4 p (Ex.new hT)⟩
  refine ⟨a, k, rfl, rfl, hb, ?_⟩
  rcases hx with hx | hx
  · exact .inl ⟨xs, ex_l e12 hx, for_it (walk_eL (xs := xs)) Pv (h0 H2 e12) (fun i σ' H' _ p => ex_l (hG i σ' H' p) hx) step hd⟩
  · exact .inr ⟨xs, ex_t e12 hx, for_it (walk_eT (xs := xs)) Pv (h0 H2 e12) (fun i σ' H' _ p => ex_t (hG i σ' H' p) hx) step hd⟩
theorem ev_bm {r : V → List V → Hp → VK → Prop} {to : TE} {ta : TA} {σ : L2.St} {H : Hp} {ty : String} {x z : V} {vs : List V} (hx : Ev to σ H x) (ht : ∀ H1, Ex H H1 → tyV K ty x H1) (ha : EvA ta σ H vs)
    (hr : ∀ H1, Ex H H1 → ∀ Q : VK, (∀ H2, Ex H1 H2 → Q z H2) → r x vs H1 Q) : Ev (tBM K ty r to ta) σ H z := fun H1 e Q q =>
  hx H1 e _ fun H2 e2 => ⟨ht H2 (e.trans e2), ha H2 (e.trans e2) _ fun H3 e3 => hr H3 ((e.trans e2).trans e3) Q fun H4 e4 => q H4 ((e2.trans e3).trans e4)⟩
def nb (n m : Int) : Str := ⟨(nbL n.toNat (bitsOf m).toNat).toArray⟩
theorem bits_lt {n m : Int} (h0 : 0 ≤ n) (h : n < m) : n.toNat < 2 ^ (bitsOf m).toNat := by
  unfold bitsOf Builtin.Int.intBits
  obtain ⟨k, hk⟩ := Int.eq_ofNat_of_zero_le (show 0 ≤ m - 1 by omega)
  rw [hk]
  have hn : n.toNat ≤ k := by omega
  by_cases c : k = 0
  · subst c
    have : n.toNat = 0 := by omega
    rw [this]
    decide
  · rw [if_neg (by simpa using c)]
    rw [Int.toNat_natCast, Int.natAbs_natCast]
    exact Nat.lt_of_le_of_lt hn Nat.lt_log2_self
theorem bits_le {m : Int} {b : Nat} (h1 : 1 ≤ m) (h : m ≤ 2 ^ b) : bitsOf m ≤ (b : Int) := by
  unfold bitsOf Builtin.Int.intBits
  obtain ⟨k, hk⟩ := Int.eq_ofNat_of_zero_le (show 0 ≤ m - 1 by omega)
  rw [hk]
  by_cases c : k = 0
  · subst c
    exact Int.natCast_nonneg b
  · rw [if_neg (by simpa using c)]
    have cast : (2 : Int) ^ b = ((2 ^ b : Nat) : Int) := by
      rw [Int.natCast_pow]
      rfl
    rw [cast] at h
    have := (Nat.log2_lt c).mpr (show k < 2 ^ b by omega)
    rw [Int.natAbs_natCast]
    omega
theorem zfill_is {n w : Nat} (hw : w ≠ 0) (h : n < 2 ^ w) : Txt.zfill (binS n) (w : Int) = ⟨(nbL n w).toArray⟩ := by
  have hl : (binS n).length = (bins n).length := by
    unfold binS bins Str.length
    simp
  have hle := bins_len (by omega) h
  have hpos := bins_pos n
  have hd := (bins_ok n).1
  unfold Txt.zfill nbL
  rw [if_neg hw, hl]
  by_cases c : (w : Int) ≤ ((bins n).length : Nat)
  · rw [if_pos c]
    have e : w - (bins n).length = 0 := by omega
    rw [e]
    rfl
  · rw [if_neg c, Int.toNat_natCast]
    have hb : binS n = ⟨(bins n).toArray⟩ := rfl
    rw [hb]
    unfold zfilled
    cases hc : bins n with
    | nil =>
      rw [hc] at hpos
      exact absurd hpos (by decide)
    | cons x r =>
      have hx := hd x (by rw [hc]; exact List.mem_cons_self ..)
      rcases hx with rfl | rfl
      · show Builtin.Str.padded _ _ 0 48 = _
        unfold Builtin.Str.padded
        simp
      · show Builtin.Str.padded _ _ 0 48 = _
        unfold Builtin.Str.padded
        simp
theorem pad_ok {n : Nat} (h : n ≤ 1000) : PadOk (n : Int) = true := by
  have k : ∀ m : Nat, m ≤ 1000 → PadOk (m : Int) = true := by decide +kernel
  exact k n h
theorem q_forS {z : Str} {te : TE} {tb tz : TS} {D : Ends} {σ : L2.St} {H : Hp} {j : Nat} (h : Ev te σ H (.str z)) (Pv : Nat → L2.St → Hp → Prop) (h0 : ∀ H1, Ex H H1 → Pv 0 σ H1)
    (hs : ∀ i c σ' H', z.cps.toList[i]? = some c → Pv i σ' H' → tb { D with nx := Pv (i + 1), ct := Pv (i + 1), bk := tz D } (σ'.set j (some (.str ⟨#[c]⟩))) H') (hd : ∀ σ' H', Pv z.cps.size σ' H' → tz D σ' H') :
    tSeq (tFor (iStr te) (gName j) tb) tz D σ H := by
  refine h H (Ex.refl H) _ fun H1 e1 => ⟨z, rfl, ?_⟩
  refine for_it (D := { D with nx := tz D }) (walk_str (z := z)) Pv (h0 H1 e1) (fun _ _ _ _ _ => trivial) ?_ hd
  intro i x σ' H2 H3 _ p y
  obtain ⟨rfl, c, hc, rfl⟩ := y
  refine hs i c σ' _ ?_ p
  rw [Array.getElem?_toList]
  exact hc
theorem one_code {c d : Nat} : (V.str ⟨#[c]⟩ = V.str ⟨#[d]⟩) ↔ c = d := by
  constructor
  · intro h
    have h2 := V.str.inj h
    have h3 := congrArg (fun s : Str => s.cps.toList) h2
    simpa using h3
  · intro h
    rw [h]
theorem str0 : Str.ofString "0" = (⟨#[48]⟩ : Str) := by decide +kernel
theorem str1 : Str.ofString "1" = (⟨#[49]⟩ : Str) := by decide +kernel
/-! ### more words for readings -/
section
variable {σ : L2.St} {H : Hp} {ta tb : TE}
theorem rcl_list {p : Addr} {xs : List V} (h : SqL K H p xs) : RCL (fun vs H Q => ∃ p ys, vs = [V.ref p] ∧ (SqL K H p ys ∨ SqT K H p ys) ∧ ∀ l, H l = none → Q (V.ref l) (upd H l (.lst ys))) [.ref p] H xs := fun H1 e Q q =>
  ⟨p, xs, rfl, .inl (ex_l e h), fun l hl => q l _ hl (Ex.new hl) upd_same⟩
theorem el_rep {xs : List V} {n : Nat} (h : EvL ta σ H xs) (hk : ∀ H1, Ex H H1 → Ev tb σ H1 (.int (n : Int))) (hz : xs.length * n ≤ 100000) (hn : n ≤ 100000) : EvL (tOp rRep ta tb) σ H (List.replicate n xs).flatten := fun H1 e Q q =>
  h H1 e _ fun p H2 hp e2 h2 => hk H2 (e.trans e2) H2 (Ex.refl H2) _ fun H3 e3 =>
    ⟨p, (n : Int), xs, rfl, rfl, e3 _ _ h2, by omega, by omega, by rw [Int.toNat_natCast]; exact sz_of hz, fun l hl => by
      rw [Int.toNat_natCast]
      exact q l _ (fresh_back (e2.trans e3) hl) ((e2.trans e3).trans (Ex.new hl)) upd_same⟩
theorem flat_one {n : Nat} {v : V} : (List.replicate n [v]).flatten = List.replicate n v := by
  induction n with
  | zero => rfl
  | succ n ih =>
    rw [List.replicate_succ, List.flatten_cons, ih]
    rfl
theorem map_rep {n : Nat} {z : Int} : (List.replicate n z).map V.int = List.replicate n (V.int z) := List.map_replicate
theorem el_catV {xs ys : List V} {b : Addr} (h : EvL ta σ H xs) (hb : ∀ H1, Ex H H1 → Ev tb σ H1 (.ref b)) (hy : H b = some (.lst ys)) (hz : xs.length + ys.length ≤ 100000) : EvL (tOp rCat ta tb) σ H (xs ++ ys) := fun H1 e Q q =>
  h H1 e _ fun p H2 hp e2 h2 => hb H2 (e.trans e2) H2 (Ex.refl H2) _ fun H3 e3 =>
    ⟨p, b, xs, ys, rfl, rfl, e3 _ _ h2, (((e.trans e2).trans e3)) _ _ hy, sz_of hz, fun l hl => q l _ (fresh_back (e2.trans e3) hl) ((e2.trans e3).trans (Ex.new hl)) upd_same⟩
theorem el_catL {xs ys : List V} (h : EvL ta σ H xs) (hb : EvL tb σ H ys) (hz : xs.length + ys.length ≤ 100000) : EvL (tOp rCat ta tb) σ H (xs ++ ys) := fun H1 e Q q =>
  h H1 e _ fun p H2 hp e2 h2 => hb H2 (e.trans e2) _ fun p2 H3 hp2 e3 h3 =>
    ⟨p, p2, xs, ys, rfl, rfl, e3 _ _ h2, h3, sz_of hz, fun l hl => q l _ (fresh_back (e2.trans e3) hl) ((e2.trans e3).trans (Ex.new hl)) upd_same⟩
theorem et_yes : EvT tYes σ H true := fun H1 _ _ q => q H1 (Ex.refl H1)
theorem given_all (n : Nat) (v : Nat → V) : given n (fun _ => true) v = (List.range n).map v := by
  unfold given
  rw [List.filter_eq_self.mpr fun _ _ => rfl]
/-- the data of a list of ints -/
theorem dp_ints : ∀ ns : List Int, DpAll K H (ns.map V.int) (ns.map PyData.int)
  | [] => .nil
  | n :: ns => .cons (.int n) (dp_ints ns)
theorem lay_ints : ∀ ns : List Int, PyData.canLayAll0 (ns.map PyData.int) = true
  | [] => by simp [PyData.canLayAll0]
  | n :: ns => by simp [PyData.canLayAll0, PyData.canLay0, lay_ints ns]
theorem deep_ints : ∀ ns : List Int, PyData.depthAll (ns.map PyData.int) = 0
  | [] => by simp [PyData.depthAll]
  | n :: ns => by simp [PyData.depthAll, PyData.depth, deep_ints ns]
theorem shaped_list_of_ints (ns : List Int) : SeqAt.shaped (.list (ns.map PyData.int)) = true := by
  show (PyData.canLay0 _ && decide (PyData.depth _ ≤ 64)) = true
  simp [PyData.canLay0, PyData.depth, lay_ints ns, deep_ints ns]
theorem rv_neInts {p q : Addr} {ns : List Int} (h1 : SqL K H p (ns.map V.int)) (h2 : SqL K H q (ns.map V.int)) : RV (rNeD K) (.ref p) (.ref q) H (.bl false) := fun H1 e Q k => by
  refine ⟨.list (ns.map PyData.int), .list (ns.map PyData.int), .lst (ex_l e h1) (dp_ints ns), .lst (ex_l e h2) (dp_ints ns), shaped_list_of_ints ns, shaped_list_of_ints ns, ?_⟩
  have r : PyData.eqv (.list (ns.map PyData.int)) (.list (ns.map PyData.int)) = true := SeqAt.eqv_refl _ (SeqAt.canLay_of_shaped (shaped_list_of_ints ns))
  rw [r]
  exact k H1 (Ex.refl H1)
end
theorem cut_to (xs : List V) (n : Nat) : cutV xs none (some (n : Int)) = xs.take n := by
  unfold cutV
  rw [HT.sIx_none, HT.sIx_nat]
  simp only [Nat.sub_zero, List.drop_zero]
  by_cases h : n ≤ xs.length
  · rw [Nat.min_eq_left h]
  · rw [Nat.min_eq_right (by omega), List.take_length, List.take_of_length_le (by omega)]
theorem cut_of (xs : List V) (a b : Nat) : ∃ k m, cutV xs (some (a : Int)) (some (b : Int)) = (xs.drop k).take m := by
  unfold cutV
  rw [HT.sIx_nat, HT.sIx_nat]
  exact ⟨_, _, rfl⟩
theorem at0_rep {z : Int} {n i : Nat} (h : i < n) : at0 (List.replicate n z) i = z := by
  unfold at0
  rw [List.getD_eq_getElem?_getD, List.getElem?_replicate, if_pos h]
  rfl
theorem at0_of_mem {ps : List Int} {x : Int} (h : x ∈ ps) : ∃ i, i < ps.length ∧ at0 ps i = x := by
  obtain ⟨i, hi, e⟩ := List.mem_iff_getElem.mp h
  refine ⟨i, hi, ?_⟩
  unfold at0
  rw [List.getD_eq_getElem?_getD, List.getElem?_eq_getElem hi]
  exact e
def restF (c : Int) (ss : List Int) : Nat → Int
  | 0 => c - 10 ^ 18
  | i + 1 => restF c ss i / at0 ss i
def digA (c : Int) (ss : List Int) (i : Nat) : Int := restF c ss i % at0 ss i
def sdF (c : Int) : Nat → Int
  | 0 => c % 2147483629
  | i + 1 => (sdF c i * 48271 + 974711 * i + 12345) % 2147483647
def twF (c : Int) (i : Nat) : Int := (sdF c (i + 1) * (sdF c (i + 1) / 65537 + 3)) % 2147483629
def digB (c : Int) (ss : List Int) (i : Nat) : Int := twF c i / 19 % at0 ss i
def dig (c : Int) (ss : List Int) (i : Nat) : Int := if 10 ^ 18 ≤ c then digA c ss i else digB c ss i
def digits (c : Int) (ss : List Int) : List Int := (List.range ss.length).map (dig c ss)
theorem digits_len (c : Int) (ss : List Int) : (digits c ss).length = ss.length := by
  unfold digits
  rw [List.length_map, List.length_range]
theorem at0_map {n i : Nat} (f : Nat → Int) (h : i < n) : at0 ((List.range n).map f) i = f i := by
  unfold at0
  rw [List.getD_eq_getElem?_getD, List.getElem?_map, List.getElem?_range h]
  rfl
theorem dig_bound {c : Int} {ss : List Int} {i : Nat} (h : 0 < at0 ss i) : 0 ≤ dig c ss i ∧ dig c ss i < at0 ss i := by
  unfold dig digA digB
  split
  · exact ⟨Int.emod_nonneg _ (by omega), Int.emod_lt_of_pos _ h⟩
  · exact ⟨Int.emod_nonneg _ (by omega), Int.emod_lt_of_pos _ h⟩
theorem digits_at {c : Int} {ss : List Int} {i : Nat} (hi : i < ss.length) (h : 0 < at0 ss i) : 0 ≤ at0 (digits c ss) i ∧ at0 (digits c ss) i < at0 ss i := by
  unfold digits
  rw [at0_map _ hi]
  exact dig_bound h
theorem sd_bound (c : Int) : ∀ i, 0 ≤ sdF c i ∧ sdF c i < 2147483647
  | 0 => by
    show 0 ≤ c % 2147483629 ∧ c % 2147483629 < 2147483647
    omega
  | i + 1 => by
    show 0 ≤ (sdF c i * 48271 + 974711 * i + 12345) % 2147483647 ∧ (sdF c i * 48271 + 974711 * i + 12345) % 2147483647 < 2147483647
    omega
theorem map_range_succ (f : Nat → Int) (n : Nat) : ((List.range (n + 1)).map f).map V.int = ((List.range n).map f).map V.int ++ [V.int (f n)] := by
  rw [List.range_succ, List.map_append, List.map_append]
  rfl
def spDigits (K : PySem.W.Frag) : Sp := fun vs H Q _ => ∃ (c : Int) (a : Addr) (ss : List Int), vs = [.int c, .ref a] ∧ SqL K H a (ss.map V.int) ∧ ss.length ≤ 1000 ∧ (∀ i, i < ss.length → 0 < at0 ss i ∧ at0 ss i < 18446744073709551616) ∧ RetL ((digits c ss).map V.int) H Q
def spWhole : Sp := fun vs H Q _ => ∃ n : Int, vs = [.int n] ∧ RetV (.bl true) H Q
def seedF (ns : List Int) : Nat → Int
  | 0 => 17
  | i + 1 => (seedF ns i * 31 + at0 ns i % 1000003) % 1000003
def cell (ns : List Int) (k : Int) : Int := if k < (ns.length : Int) then at0 ns k.toNat else ((seedF ns ns.length + 7) * (k + 3) * 69621) % 2147483647
def spCell (K : PySem.W.Frag) : Sp := fun vs H Q _ => ∃ (a : Addr) (ns : List Int) (k : Int), vs = [.ref a, .int k] ∧ SqL K H a (ns.map V.int) ∧ ns.length ≤ 63 ∧ (0 ≤ k ∧ k ≤ 1000) ∧ RetV (.int (cell ns k)) H Q
theorem sv_whole {n : Int} {H : Hp} : SpV spWhole ([V.int n] ++ []) H (.bl true) := fun _ _ _ q _ => ⟨n, rfl, q⟩
theorem sv_cell {a : Addr} {ns : List Int} {k : Int} {H : Hp} (hS : SqL K H a (ns.map V.int)) (h : ns.length ≤ 63) (hk : 0 ≤ k ∧ k ≤ 1000) : SpV (spCell K) ([V.ref a, V.int k] ++ []) H (.int (cell ns k)) := fun _ e _ q _ => ⟨a, ns, k, rfl, ex_l e hS, h, hk, q⟩
theorem sl_digits {c : Int} {a : Addr} {ss : List Int} {H : Hp} (hS : SqL K H a (ss.map V.int)) (hz : ss.length ≤ 1000) (hss : ∀ i, i < ss.length → 0 < at0 ss i ∧ at0 ss i < 18446744073709551616) : SpL (spDigits K) ([V.int c, V.ref a] ++ []) H ((digits c ss).map V.int) := fun _ e _ q _ => ⟨c, a, ss, rfl, ex_l e hS, hz, hss, q⟩
section
variable {σ : L2.St} {H : Hp} {ta tl : TE} {sp : Sp} {E : XK} {tz : TS} {D : Ends}
theorem el_digs {c : Int} {ss : List Int} (h : Ev ta σ H (.int c)) (hl : EvL tl σ H (ss.map V.int)) (hz : ss.length ≤ 1000) (hss : ∀ i, i < ss.length → 0 < at0 ss i ∧ at0 ss i < 18446744073709551616) : EvL (tCall (spDigits K) [] E (tCons ta (tCons tl tNil))) σ H ((digits c ss).map V.int) := fun H1 e Q q =>
  h H1 e _ fun H2 e2 => hl H2 (e.trans e2) _ fun p H3 hp e3 h3 => ⟨c, p, ss, rfl, sq_of h3, hz, hss, fun l H4 hl4 e4 h4 => q l H4 (fresh_back (e2.trans e3) hl4) ((e2.trans e3).trans e4) h4⟩
theorem ev_call2L {x z : V} {xs dvs : List V} (h : Ev ta σ H x) (hl : EvL tl σ H xs) (hs : ∀ p H1, Ex H H1 → H1 p = some (.lst xs) → SpV sp ([x, .ref p] ++ dvs) H1 z) : Ev (tCall sp dvs E (tCons ta (tCons tl tNil))) σ H z := fun H1 e Q q =>
  h H1 e _ fun H2 e2 => hl H2 (e.trans e2) _ fun p H3 hp e3 h3 => hs p H3 ((e.trans e2).trans e3) h3 H3 (Ex.refl H3) Q (fun H4 e4 => q H4 ((e2.trans e3).trans e4)) E
theorem ev_call1L {y z : V} {xs dvs : List V} (hl : EvL tl σ H xs) (h : ∀ H1, Ex H H1 → Ev ta σ H1 y) (hs : ∀ p H1, Ex H H1 → H1 p = some (.lst xs) → SpV sp ([.ref p, y] ++ dvs) H1 z) : Ev (tCall sp dvs E (tCons tl (tCons ta tNil))) σ H z := fun H1 e Q q =>
  hl H1 e _ fun p H2 hp e2 h2 => h H2 (e.trans e2) H2 (Ex.refl H2) _ fun H3 e3 => hs p H3 ((e.trans e2).trans e3) (e3 _ _ h2) H3 (Ex.refl H3) Q (fun H4 e4 => q H4 ((e2.trans e3).trans e4)) E
theorem ev_callL {z : V} {xs dvs : List V} (hl : EvL tl σ H xs) (hs : ∀ p H1, Ex H H1 → H1 p = some (.lst xs) → SpV sp ([.ref p] ++ dvs) H1 z) : Ev (tCall sp dvs E (tCons tl tNil)) σ H z := fun H1 e Q q =>
  hl H1 e _ fun p H2 hp e2 h2 => hs p H2 (e.trans e2) h2 H2 (Ex.refl H2) Q (fun H4 e4 => q H4 (e2.trans e4)) E
theorem el_slN {xs : List V} {t1 t2 : TO} {lo hi : Option Int} (h : EvL tl σ H xs) (h1 : ∀ H1, Ex H H1 → EvO t1 σ H1 lo) (h2 : ∀ H1, Ex H H1 → EvO t2 σ H1 hi) : EvL (tSl (rSlL K) tl t1 t2) σ H (cutV xs lo hi) := fun H1 e Q q =>
  h H1 e _ fun p H2 hp e2 hx => h1 H2 (e.trans e2) H2 (Ex.refl H2) _ fun H3 e3 => h2 H3 ((e.trans e2).trans e3) H3 (Ex.refl H3) _ fun H4 e4 =>
    ⟨p, xs, rfl, sq_of (e4 _ _ (e3 _ _ hx)), fun l hl => q l _ (fresh_back ((e2.trans e3).trans e4) hl) (((e2.trans e3).trans e4).trans (Ex.new hl)) upd_same⟩
theorem q_callD {ta : TA} {vs dvs : List V} {i : Nat} (h : EvA ta σ H vs) (k : ∀ H1, Ex H H1 → sp (vs ++ dvs) H1 (fun x H2 => tz D (σ.set i (some x)) H2) E) : tSeq (tAsg (tCall sp dvs E ta) (gName i)) tz D σ H := h H (Ex.refl H) _ k
end
def spLw : Sp := fun vs H Q _ => ∃ n : Int, vs = [.int n] ∧ 1 ≤ n ∧ n ≤ 2 ^ 2100 ∧ RetV (.int (bitsOf n)) H Q
theorem sv_lw {n : Int} {H : Hp} (h1 : 1 ≤ n) (h2 : n ≤ 2 ^ 2100) : SpV spLw ([V.int n] ++ []) H (.int (bitsOf n)) := fun _ _ _ q _ => ⟨n, rfl, h1, h2, q⟩
def spNb : Sp := fun vs H Q _ => ∃ n m : Int, vs = [.int n, .int m] ∧ 0 ≤ n ∧ n < m ∧ m ≤ 2 ^ 1000 ∧ RetV (.str (nb n m)) H Q
theorem sv_nb {n m : Int} {H : Hp} (h0 : 0 ≤ n) (h1 : n < m) (h2 : m ≤ 2 ^ 1000) : SpV spNb ([V.int n, V.int m] ++ []) H (.str (nb n m)) := fun _ _ _ q _ => ⟨n, m, rfl, h0, h1, h2, q⟩
def spWidth : Sp := fun vs H Q _ => ∃ n : Int, vs = [.int n] ∧ RetV (.int (bitsOf n)) H Q
theorem sv_width {n : Int} {H : Hp} : SpV spWidth ([V.int n] ++ []) H (.int (bitsOf n)) := fun _ _ _ q _ => ⟨n, rfl, q⟩
end
end Ver
namespace Ver
open PySem PySem.Spec PyProof.Rows L2 Evl
open PySem.Builtin PySem.Builtin.Str
/-! ### texts as lists of codes -/
abbrev tx (l : List Nat) : V := .str (SX.S l)
theorem tx_inj {a b : List Nat} (h : tx a = tx b) : a = b := SX.S_inj (V.str.inj h)
theorem tx_dec {a b : List Nat} : decide (tx a = tx b) = decide (a = b) := decide_eq_decide.mpr ⟨tx_inj, fun h => by rw [h]⟩
theorem stripLo_all {goes : Nat → Bool} {l : List Nat} (h : ∀ c ∈ l, goes c = true) : stripLo goes true (SX.S l) = l.length := by
  unfold stripLo
  rw [if_pos rfl]
  show (l.takeWhile goes).length = _
  rw [List.takeWhile_eq_filter_of_all h]
where
  List.takeWhile_eq_filter_of_all {goes : Nat → Bool} {l : List Nat} (h : ∀ c ∈ l, goes c = true) : l.takeWhile goes = l := by
    induction l with
    | nil => rfl
    | cons a r ih =>
      rw [List.takeWhile_cons, if_pos (h a (List.mem_cons_self ..)), ih fun c hc => h c (List.mem_cons_of_mem _ hc)]
theorem strip_to {goes : Nat → Bool} {r : Bool} {l : List Nat} (h : ∀ c ∈ l, goes c = true) : Txt.stripBy goes true r (SX.S l) = SX.S [] := by
  have hlo := stripLo_all h
  unfold Txt.stripBy stripSame stripped
  rw [hlo]
  have hhi : stripHi goes r (SX.S l) l.length = l.length := by
    unfold stripHi
    rw [SX.S_len]
    have e : (SX.S l).cps.toList.drop l.length = [] := List.drop_length
    rw [e]
    cases r <;> rfl
  rw [hhi, SX.S_len]
  cases l with
  | nil => rfl
  | cons a t =>
    rw [if_neg (by simp)]
    unfold strSub
    rw [← SX.S_tl ((⟨(SX.S (a :: t)).cps.extract (a :: t).length (a :: t).length⟩ : Str))]
    congr 1
    simp
theorem has_contains {l m : List Nat} (h : ∀ c ∈ l, c ∈ m) : ∀ c ∈ l, (SX.S m).cps.contains c = true := fun c hc => by
  have := h c hc
  simpa using this
theorem strip_chars {l m : List Nat} (h : ∀ c ∈ l, c ∈ m) : Txt.stripChars (SX.S l) (SX.S m) = SX.S [] := strip_to (has_contains h)
theorem lstrip_chars {l m : List Nat} (h : ∀ c ∈ l, c ∈ m) : Txt.lstripChars (SX.S l) (SX.S m) = SX.S [] := strip_to (has_contains h)
theorem occ_mem (s sub : Str) (hi lim : Nat) : ∀ (l : List Nat) (st : Array Nat × Nat) (k : Nat), k ∈ (forIn l st (StrLaws.occBody s sub hi lim)).run.fst.toList → k ∈ st.fst.toList ∨ (k + sub.length ≤ hi ∧ subAt s sub k = true)
  | [], st, k, h => .inl h
  | a :: l, st, k, h => by
    rw [List.forIn_cons] at h
    unfold StrLaws.occBody at h
    split at h
    · rename_i c
      rcases occ_mem s sub hi lim l _ k h with q | q
      · have q2 : k ∈ st.fst.toList ++ [a] := by simpa using q
        rcases List.mem_append.mp q2 with z | z
        · exact .inl z
        · rw [List.mem_singleton.mp z]
          exact .inr ⟨c.1.2, c.2⟩
      · exact .inr q
    · exact occ_mem s sub hi lim l _ k h
/-- the one place of a sign in a text without repeats -/
theorem index_one {l : List Nat} {c i : Nat} (nd : l.Nodup) (h : l[i]? = some c) : ∃ rest, occurrences (SX.S l) (SX.S [c]) 0 (SX.S l).length 1 = i :: rest := by
  have f := StrLaws.found_one (SX.S l) c
  have hm : c ∈ l := List.mem_of_getElem? h
  have e : (⟨#[c]⟩ : Str) = SX.S [c] := rfl
  rw [e] at f
  rw [show decide (c ∈ (SX.S l).cps.toList) = true from decide_eq_true hm] at f
  cases ho : occurrences (SX.S l) (SX.S [c]) 0 (SX.S l).length 1 with
  | nil =>
    rw [ho] at f
    cases f
  | cons j rest =>
    have hj : j ∈ occurrences (SX.S l) (SX.S [c]) 0 (SX.S l).length 1 := by
      rw [ho]
      exact List.mem_cons_self ..
    rw [StrLaws.occ_eq] at hj
    rcases occ_mem _ _ _ _ _ _ _ hj with z | z
    · cases z
    · have g := (StrLaws.subAt_one (SX.S l) c j).mp z
      have g2 : l[j]? = some c := g
      obtain ⟨h1, e1⟩ := List.getElem?_eq_some_iff.mp h
      obtain ⟨h2, e2⟩ := List.getElem?_eq_some_iff.mp g2
      have : i = j := (List.getElem_inj nd).mp (e1.trans e2.symm)
      subst this
      exact ⟨rest, rfl⟩
theorem starts_S {a b : List Nat} : Txt.startswith (SX.S a) (SX.S b) = decide (b <+: a) := by
  unfold Txt.startswith
  rw [StrLaws.subAt_eq, SX.S_len, SX.S_len]
  show (decide (0 + b.length ≤ a.length) && ((a.drop 0).take b.length == b)) = _
  rw [List.drop_zero, Nat.zero_add, Bool.eq_iff_iff, Bool.and_eq_true, decide_eq_true_eq, beq_iff_eq, decide_eq_true_eq]
  constructor
  · intro h
    rw [← h.2]
    exact List.take_prefix _ _
  · intro h
    exact ⟨h.length_le, (List.prefix_iff_eq_take.mp h).symm⟩
/-! ### text * n -/
theorem foldl_reps (l : List Nat) : ∀ (n : Nat) (acc : Array Nat), ((List.replicate n l.toArray).foldl (· ++ ·) acc).toList = acc.toList ++ (List.replicate n l).flatten
  | 0, acc => by simp
  | n + 1, acc => by
    rw [List.replicate_succ, List.foldl_cons, foldl_reps l n, List.replicate_succ, List.flatten_cons]
    simp
theorem mul_S {l : List Nat} {n : Nat} : Txt.mul (SX.S l) (n : Int) = SX.S (List.replicate n l).flatten := by
  unfold Txt.mul
  by_cases h : (n : Int) < 1
  · rw [if_pos h]
    have : n = 0 := by omega
    subst this
    rfl
  · rw [if_neg h]
    by_cases c : ((n : Int) == 1 || (SX.S l).length == 0) = true
    · rw [if_pos c]
      rw [SX.S_len, Bool.or_eq_true, beq_iff_eq, beq_iff_eq] at c
      rcases c with c | c
      · have : n = 1 := by omega
        subst this
        simp
      · have : l = [] := List.eq_nil_of_length_eq_zero c
        subst this
        have e : (List.replicate n ([] : List Nat)).flatten = [] := by simp
        rw [e]
    · rw [if_neg c, Int.toNat_natCast]
      have e := foldl_reps l n #[]
      rw [← SX.S_tl ((⟨(List.replicate n (SX.S l).cps).foldl (· ++ ·) #[]⟩ : Str))]
      congr 1
def rMulS : R2 := fun x y H Q => ∃ (l : List Nat) (n : Nat), x = tx l ∧ y = .int (n : Int) ∧ n ≤ 100000 ∧ l.length * n ≤ 100000 ∧ Q (tx (List.replicate n l).flatten) H
theorem mul_ok {l : List Nat} {n : Nat} (h1 : n ≤ 100000) (h2 : l.length * n ≤ 100000) : MulOk (SX.S l) (n : Int) := by
  refine ⟨?_, fun h c => ?_, fun h c => ?_⟩
  · have a : ¬ (n : Int) < -(2 ^ 63 : Int) := by omega
    have b : ¬ (n : Int) ≥ 2 ^ 63 := by omega
    rw [decide_eq_false a, decide_eq_false b]
    rfl
  · rw [SX.S_len]
    have hn : 0 < (n : Int) := by omega
    have e : ((l.length : Int) * n) ≤ 100000 := by
      rw [← Int.natCast_mul]
      omega
    have k : (l.length : Int) ≤ (2 ^ 63 - 1) / n := (Int.le_ediv_iff_mul_le hn).mpr (by omega)
    omega
  · rw [SX.S_len, Int.toNat_natCast]
    unfold tooLong
    have := sz_of h2
    exact decide_eq_false (by omega)
theorem op_mulS {X : Cx} : OpR X (binaryOp .Mult) rMulS := by
  intro pins s σ H x y v u Q I rx ry h
  obtain ⟨l, n, rfl, rfl, h1, h2, q⟩ := h
  obtain ⟨t, rfl⟩ := rx
  obtain ⟨t', rfl⟩ := ry
  refine SB.mul (mul_ok h1 h2) fun t2 k => ?_
  rw [mul_S]
  exact ⟨tx _, H, I.tok _, ⟨_, rfl⟩, q⟩
/-! ### text[::-1] -/
theorem pe_revS {X : Cx} {e : Expr} {te : TE} {k : Nat} {p1 p2 p3 pos : Pos} (he : PE X e te) : PE X (.Subscript e (.Slice none none (some (.UnaryOp .USub (.Constant (.int 1) k p1) p2)) p3) pos) (tRevS te) := by
  refine ⟨fun pins s σ H Q I h => ?_⟩
  refine Subscript_ (thn (he.run pins s σ H _ I h) fun v s1 ⟨x, H1, I1, r1, q1⟩ => ?_)
  obtain ⟨z, ex, hz, q⟩ := q1
  subst ex
  obtain ⟨t, rfl⟩ := r1
  have hst : PO X (some (.UnaryOp .USub (.Constant (.int 1) k p1) p2)) (tPart (tUn (rU fun i => .int (-i)) (tC (.int 1)))) := po_some (pe_un un_neg pe_int)
  refine wpAny_Slice (thn (po_none.run pins s1 σ H1 (fun o H2 => o = none ∧ H2 = H1) I1 ⟨rfl, rfl⟩) fun vl s2 ⟨l, H2, I2, pl, el, e2⟩ => ?_)
  subst el e2
  refine thn (po_none.run pins s2 σ H2 (fun o H3 => o = none ∧ H3 = H2) I2 ⟨rfl, rfl⟩) fun vu s3 ⟨u, H3, I3, pu, eu, e3⟩ => ?_
  subst eu e3
  refine thn (hst.run pins s3 σ H3 (fun o H4 => o = some (-1) ∧ H4 = H3) I3 ⟨1, rfl, -1, rfl, rfl, rfl⟩) fun vs s4 ⟨o, H4, I4, ps, eo, e4⟩ => ?_
  subst eo e4
  have I5 : Inv X pins σ H4 { s4 with heap := s4.heap.push { cls := .type "slice", data := .fields #[vl, vu, vs] } } := I4.kept (t' := s4.toks) fun b ob q => Heap.get?_push_of_some _ q
  obtain ⟨l, rfl, hl⟩ := IsPart.raw pl
  obtain ⟨u, rfl, hu⟩ := IsPart.raw pu
  obtain ⟨w, rfl, hw⟩ := IsPart.raw ps
  cases l with
  | some l => cases hl
  | none =>
  cases u with
  | some u => cases hu
  | none =>
  cases w with
  | none => cases hw
  | some w =>
  obtain ⟨w1, w2⟩ := w
  have ew : w1 = -1 := by
    have : some w1 = some (-1 : Int) := hw
    exact Option.some.inj this
  subst ew
  refine tail_any (ops := [.ref s4.heap.objs.size, .str z t]) (typeIs_str _ _ _) F.slot_str_getitem.lookup ?_ (by with_unfolding_all rfl)
  refine wpAny_getItem_str_slice (l := none) (u := none) (st := some (-1, w2)) ⟨_, Heap.get?_push_size _ rfl, rfl, rfl⟩ rfl ?_
  have hc : ¬ ((((some ((-1 : Int), w2)).map (·.1)).getD 1 == 1 && (slicePicked z none none (some (-1, w2))).length == z.length) = true) := by
    have : (((some ((-1 : Int), w2)).map (·.1)).getD 1 == 1) = false := rfl
    rw [this]
    simp
  have hl := step_rev_list z w2
  have hn := step_rev_len z w2
  unfold Txt.sliceBy at hl hn
  rw [if_neg hc] at hl hn
  unfold sliceMade
  rw [if_neg hc]
  refine ⟨?_, .str _, H4, I5.tok _, ⟨_, rfl⟩, q _ ?_ (Nat.le_of_eq hn)⟩
  · show (⟨((slicePicked z none none (some (-1, w2))).filterMap (z.cps[·]?)).toArray⟩ : Str).length ≤ sizeLine
    rw [hn]
    exact hz
  · intro c hcm
    rw [hl] at hcm
    obtain ⟨k, hk, rfl⟩ := List.mem_map.mp hcm
    have hk' := List.mem_range.mp hk
    have hlt : z.length - 1 - k < z.cps.size := by
      have : z.length = z.cps.size := rfl
      omega
    have e : z.cps.getD (z.length - 1 - k) 0 = z.cps[z.length - 1 - k] := by simp [Array.getD, hlt]
    rw [e]
    simp
end Ver
namespace Ver
/-! ### numbers of a list in a stretch -/
theorem card_le : ∀ (n a : Nat) (T : List Nat), T.Nodup → (∀ x ∈ T, a ≤ x ∧ x < a + n) → T.length ≤ n
  | 0, a, T, _, h => by
    cases T with
    | nil => exact Nat.le_refl 0
    | cons x r =>
      have := h x (List.mem_cons_self ..)
      omega
  | n + 1, a, T, nd, h => by
    by_cases hm : a + n ∈ T
    · have e := List.length_erase_of_mem hm
      have ih := card_le n a (T.erase (a + n)) (nd.erase _) fun x hx => by
        have h1 := h x (List.mem_of_mem_erase hx)
        have h2 : x ≠ a + n := fun q => by
          rw [q] at hx
          exact nd.not_mem_erase hx
        omega
      omega
    · have ih := card_le n a T nd fun x hx => by
        have h1 := h x hx
        have h2 : x ≠ a + n := fun q => hm (q ▸ hx)
        omega
      omega
/-- how many of T are below v -/
def bel (T : List Nat) (v : Nat) : Nat := T.countP (fun x => decide (x < v))
theorem bel_le {T : List Nat} (nd : T.Nodup) (v : Nat) : bel T v ≤ v := by
  unfold bel
  rw [List.countP_eq_length_filter]
  have := card_le v 0 (T.filter fun x => decide (x < v)) (nd.filter _) fun x hx => by
    have := of_decide_eq_true (List.mem_filter.mp hx).2
    omega
  exact this
theorem bel_step {T : List Nat} (nd : T.Nodup) {x y : Nat} (h : x < y) (hx : x ∉ T) : bel T y ≤ bel T x + (y - x - 1) := by
  have e : bel T y = bel T x + (T.filter fun z => decide (x < z ∧ z < y)).length := by
    unfold bel
    rw [← List.countP_eq_length_filter]
    clear nd
    induction T with
    | nil => rfl
    | cons a r ih =>
      have ih := ih fun q => hx (List.mem_cons_of_mem _ q)
      have ha : a ≠ x := fun q => hx (q ▸ List.mem_cons_self ..)
      rw [List.countP_cons, List.countP_cons, List.countP_cons, ih]
      by_cases c1 : a < x
      · rw [if_pos (decide_eq_true (show a < y by omega)), if_pos (decide_eq_true c1), if_neg (by simp; omega)]
        omega
      · by_cases c2 : a < y
        · rw [if_pos (decide_eq_true c2), if_neg (by simpa using c1), if_pos (decide_eq_true (show x < a ∧ a < y by omega))]
          omega
        · rw [if_neg (by simpa using c2), if_neg (by simpa using c1), if_neg (by simp; omega)]
          omega
  have := card_le (y - x - 1) (x + 1) (T.filter fun z => decide (x < z ∧ z < y)) (nd.filter _) fun z hz => by
    have := of_decide_eq_true (List.mem_filter.mp hz).2
    omega
  omega
/-- the free number of x among those that T leaves is below that of y -/
theorem bel_lt {T : List Nat} (nd : T.Nodup) {x y : Nat} (h : x < y) (hx : x ∉ T) : x - bel T x < y - bel T y := by
  have h1 := bel_step nd h hx
  have h2 := bel_le nd x
  omega
theorem bel_all {T : List Nat} {v : Nat} (h : ∀ x ∈ T, x < v) : bel T v = T.length := by
  unfold bel
  exact List.countP_eq_length.mpr fun x hx => decide_eq_true (h x hx)
/-- x is among the free ones below v -/
theorem bel_room {T : List Nat} (nd : T.Nodup) {x v : Nat} (h : x < v) (hx : x ∉ T) (hT : ∀ z ∈ T, z < v) : x - bel T x < v - T.length := by
  have := bel_lt nd h hx
  rw [bel_all hT] at this
  exact this
/-! ### rows, pieces -/
abbrev Rw := List (Nat × Nat)
def pcs (rs : Rw) : List (List Nat) := rs.foldl (fun ps r => ps ++ [ps.getD r.1 [] ++ [r.2]]) [[]]
theorem pcs_snoc (rs : Rw) (r : Nat × Nat) : pcs (rs ++ [r]) = pcs rs ++ [(pcs rs).getD r.1 [] ++ [r.2]] := by
  unfold pcs
  rw [List.foldl_append]
  rfl
theorem snoc_ind {α : Type} {M : List α → Prop} (h0 : M []) (hs : ∀ l a, M l → M (l ++ [a])) (l : List α) : M l := by
  have h : ∀ n (l : List α), l.length = n → M l := by
    intro n
    induction n with
    | zero =>
      intro l hl
      rw [List.eq_nil_of_length_eq_zero hl]
      exact h0
    | succ n ih =>
      intro l hl
      have hne : l ≠ [] := fun q => by rw [q] at hl; cases hl
      have e := (List.dropLast_concat_getLast hne).symm
      rw [e]
      refine hs _ _ (ih _ ?_)
      rw [List.length_dropLast, hl]
      rfl
  exact h _ l rfl
theorem pcs_len (rs : Rw) : (pcs rs).length = rs.length + 1 := by
  induction rs using snoc_ind with
  | h0 => rfl
  | hs l a ih => rw [pcs_snoc, List.length_append, ih, List.length_append]; rfl
structure RowsOk (al : List Nat) (rs : Rw) : Prop where
  low : ∀ (i p c : Nat), rs[i]? = some (p, c) → p ≤ i ∧ c ∈ al
  nd : rs.Nodup
theorem RowsOk.init {al : List Nat} {rs : Rw} {r : Nat × Nat} (h : RowsOk al (rs ++ [r])) : RowsOk al rs := by
  refine ⟨fun i p c e => h.low i p c ?_, (List.nodup_append.mp h.nd).1⟩
  rw [List.getElem?_append_left (List.getElem?_eq_some_iff.mp e).1]
  exact e
theorem RowsOk.last {al : List Nat} {rs : Rw} {p c : Nat} (h : RowsOk al (rs ++ [(p, c)])) : p ≤ rs.length ∧ c ∈ al ∧ (p, c) ∉ rs := by
  have h1 := h.low rs.length p c (by simp)
  refine ⟨h1.1, h1.2, fun hm => ?_⟩
  have := (List.nodup_append.mp h.nd).2.2 (p, c) hm (p, c) (List.mem_singleton.mpr rfl)
  exact this rfl
theorem RowsOk.snoc {al : List Nat} {rs : Rw} {p c : Nat} (h : RowsOk al rs) (h1 : p ≤ rs.length) (h2 : c ∈ al) (h3 : (p, c) ∉ rs) : RowsOk al (rs ++ [(p, c)]) := by
  refine ⟨fun i q d e => ?_, List.nodup_append.mpr ⟨h.nd, by simp, ?_⟩⟩
  · by_cases hi : i < rs.length
    · rw [List.getElem?_append_left hi] at e
      exact h.low i q d e
    · rw [List.getElem?_append_right (by omega)] at e
      have hz : i - rs.length = 0 := by
        have := (List.getElem?_eq_some_iff.mp e).1
        simp at this
        omega
      rw [hz] at e
      cases e
      exact ⟨by omega, h2⟩
  · intro a ha b hb
    rw [List.mem_singleton.mp hb]
    intro q
    exact h3 (q ▸ ha)
theorem getD_mem {l : List (List Nat)} {i : Nat} (h : i < l.length) : l.getD i [] ∈ l := by
  rw [List.getD_eq_getElem?_getD, List.getElem?_eq_getElem h]
  exact List.getElem_mem h
theorem getD_inj {l : List (List Nat)} (nd : l.Nodup) {i j : Nat} (hi : i < l.length) (hj : j < l.length) (h : l.getD i [] = l.getD j []) : i = j := by
  rw [List.getD_eq_getElem?_getD, List.getD_eq_getElem?_getD, List.getElem?_eq_getElem hi, List.getElem?_eq_getElem hj] at h
  exact (List.getElem_inj nd).mp h
theorem idx_getD {l : List (List Nat)} (nd : l.Nodup) {i : Nat} (h : i < l.length) : l.idxOf (l.getD i []) = i := by
  have hm := getD_mem h
  have h1 := List.idxOf_lt_length_of_mem hm
  refine getD_inj nd h1 h ?_
  rw [List.getD_eq_getElem?_getD, List.getElem?_eq_getElem h1]
  show l[l.idxOf (l.getD i [])] = _
  exact List.getElem_idxOf h1
theorem pcs_zero (rs : Rw) : (pcs rs).getD 0 [] = [] := by
  induction rs using snoc_ind with
  | h0 => rfl
  | hs l a ih =>
    rw [pcs_snoc, List.getD_eq_getElem?_getD, List.getElem?_append_left (by rw [pcs_len]; omega), ← List.getD_eq_getElem?_getD]
    exact ih
/-- the piece of parent p with sign c is there just where the row is, and one place further on -/
theorem pcs_facts {al : List Nat} : ∀ rs : Rw, RowsOk al rs → (pcs rs).Nodup ∧ (∀ (i p c : Nat), rs[i]? = some (p, c) → (pcs rs).getD (i + 1) [] = (pcs rs).getD p [] ++ [c]) ∧
    ∀ (p c : Nat), p ≤ rs.length → ((pcs rs).getD p [] ++ [c] ∈ pcs rs ↔ (p, c) ∈ rs) := by
  intro rs
  induction rs using snoc_ind with
  | h0 =>
    intro _
    refine ⟨by simp [pcs], fun i p c h => by simp at h, fun p c hp => ?_⟩
    simp [pcs]
  | hs rs a ih =>
    intro ok
    obtain ⟨q, d⟩ := a
    obtain ⟨nd, rows, ex⟩ := ih ok.init
    obtain ⟨hq, _, hn⟩ := ok.last
    have hnew : (pcs rs).getD q [] ++ [d] ∉ pcs rs := fun h => hn ((ex q d hq).mp h)
    have hl := pcs_len rs
    have nd2 : (pcs (rs ++ [(q, d)])).Nodup := by
      rw [pcs_snoc]
      exact List.nodup_append.mpr ⟨nd, by simp, fun x hx y hy e => hnew (by rw [List.mem_singleton.mp hy] at e; exact e ▸ hx)⟩
    have old : ∀ k, k ≤ rs.length → (pcs (rs ++ [(q, d)])).getD k [] = (pcs rs).getD k [] := fun k hk => by
      rw [pcs_snoc, List.getD_eq_getElem?_getD, List.getElem?_append_left (by omega), ← List.getD_eq_getElem?_getD]
    have new : (pcs (rs ++ [(q, d)])).getD (rs.length + 1) [] = (pcs rs).getD q [] ++ [d] := by
      rw [pcs_snoc, List.getD_eq_getElem?_getD, List.getElem?_append_right (by omega), hl]
      simp
    refine ⟨nd2, fun i p c h => ?_, fun p c hp => ?_⟩
    · by_cases hi : i < rs.length
      · rw [List.getElem?_append_left hi] at h
        have hp := (ok.init.low i p c h).1
        rw [old _ (by omega), old _ (by omega)]
        exact rows i p c h
      · have hi2 : i = rs.length := by
          have := (List.getElem?_eq_some_iff.mp h).1
          simp at this
          omega
        subst hi2
        have e : (q, d) = (p, c) := by simpa using h
        cases e
        rw [new, old _ hq]
    · by_cases hp2 : p ≤ rs.length
      · rw [old _ hp2, pcs_snoc, List.mem_append, List.mem_append, ex p c hp2, List.mem_singleton, List.mem_singleton]
        refine or_congr Iff.rfl ⟨fun h => ?_, fun h => ?_⟩
        · obtain ⟨e1, e2⟩ := List.append_inj' h rfl
          have := getD_inj nd (by omega) (by omega) e1
          cases e2
          rw [this]
        · cases h
          rfl
      · have e : p = rs.length + 1 := by
          rw [List.length_append] at hp
          simp at hp
          omega
        subst e
        rw [new]
        constructor
        · intro h
          -- a piece one longer than the last one
          exfalso
          rw [pcs_snoc, List.mem_append, List.mem_singleton] at h
          rcases h with h | h
          · -- its beginning would be a piece of the old ones
            obtain ⟨j, hj, ej⟩ := List.mem_iff_getElem.mp h
            cases j with
            | zero =>
              have e0 : (pcs rs)[0] = [] := by
                have h0 : (pcs rs).getD 0 [] = [] := pcs_zero rs
                rw [List.getD_eq_getElem?_getD, List.getElem?_eq_getElem hj] at h0
                exact h0
              rw [e0] at ej
              simp at ej
            | succ j =>
              have hj2 : j < rs.length := by omega
              have hg : rs[j]? = some ((rs[j]).1, (rs[j]).2) := List.getElem?_eq_getElem hj2
              have hrow := rows j _ _ hg
              rw [List.getD_eq_getElem?_getD, List.getElem?_eq_getElem hj] at hrow
              have e3 : (pcs rs)[j + 1] = (pcs rs).getD (rs[j]).1 [] ++ [(rs[j]).2] := hrow
              rw [e3] at ej
              obtain ⟨e1, _⟩ := List.append_inj' ej rfl
              have hp' := (ok.init.low j _ _ hg).1
              refine hnew ?_
              rw [← e1]
              exact getD_mem (by omega)
          · have := congrArg List.length h
            simp at this
        · intro h
          exfalso
          rcases List.mem_append.mp h with h | h
          · obtain ⟨j, hj⟩ := List.mem_iff_getElem?.mp h
            have := (ok.init.low j _ _ hj).1
            have := (List.getElem?_eq_some_iff.mp hj).1
            omega
          · have h2 := List.mem_singleton.mp h
            have : rs.length + 1 = q := congrArg Prod.fst h2
            omega
end Ver
namespace Ver
/-! ### the cut -/
def cutStep (s : Rw × Nat) (c : Nat) : Rw × Nat := if (s.2, c) ∈ s.1 then (s.1, s.1.idxOf (s.2, c) + 1) else (s.1 ++ [(s.2, c)], 0)
def cutW (w : List Nat) : Rw × Nat := w.foldl cutStep ([], 0)
theorem cut_snoc (w : List Nat) (c : Nat) : cutW (w ++ [c]) = cutStep (cutW w) c := by
  unfold cutW
  rw [List.foldl_append]
  rfl
structure CutOk (al w : List Nat) (s : Rw × Nat) : Prop where
  ok : RowsOk al s.1
  low : s.2 ≤ s.1.length
  word : w = (pcs s.1).flatten ++ (pcs s.1).getD s.2 []
  few : s.1.length ≤ w.length
theorem idx_row {rs : Rw} {r : Nat × Nat} (h : r ∈ rs) : rs.idxOf r < rs.length ∧ rs[rs.idxOf r]? = some r := by
  have h1 := List.idxOf_lt_length_of_mem h
  refine ⟨h1, ?_⟩
  rw [List.getElem?_eq_getElem h1, List.getElem_idxOf h1]
theorem cut_ok {al : List Nat} (w : List Nat) (h : ∀ c ∈ w, c ∈ al) : CutOk al w (cutW w) := by
  induction w using snoc_ind with
  | h0 => exact ⟨⟨fun i p c h => by simp [cutW] at h, List.nodup_nil⟩, Nat.le_refl 0, by simp [cutW, pcs], Nat.le_refl 0⟩
  | hs w c ih0 =>
    have ih := ih0 fun d hd => h d (List.mem_append_left _ hd)
    have hc : c ∈ al := h c (List.mem_append_right _ (List.mem_singleton.mpr rfl))
    rw [cut_snoc]
    generalize cutW w = s at ih ⊢
    obtain ⟨rs, p⟩ := s
    obtain ⟨ok, low, word, few⟩ := ih
    have low : p ≤ rs.length := low
    obtain ⟨nd, rows, ex⟩ := pcs_facts rs ok
    have word : w = (pcs rs).flatten ++ (pcs rs).getD p [] := word
    have few : rs.length ≤ w.length := few
    unfold cutStep
    by_cases hm : (p, c) ∈ rs
    · rw [if_pos hm]
      obtain ⟨h1, h2⟩ := idx_row hm
      refine ⟨ok, h1, ?_, ?_⟩
      · show w ++ [c] = (pcs rs).flatten ++ (pcs rs).getD (rs.idxOf (p, c) + 1) []
        rw [rows _ p c h2, word, List.append_assoc]
      · show rs.length ≤ (w ++ [c]).length
        rw [List.length_append]
        omega
    · rw [if_neg hm]
      refine ⟨ok.snoc low hc hm, Nat.zero_le _, ?_, ?_⟩
      · show w ++ [c] = (pcs (rs ++ [(p, c)])).flatten ++ (pcs (rs ++ [(p, c)])).getD 0 []
        rw [pcs_zero, pcs_snoc, List.flatten_append, word]
        simp
      · show (rs ++ [(p, c)]).length ≤ (w ++ [c]).length
        rw [List.length_append, List.length_append]
        show rs.length + 1 ≤ w.length + 1
        omega
theorem cut_inj {al w v : List Nat} (hw : ∀ c ∈ w, c ∈ al) (hv : ∀ c ∈ v, c ∈ al) (h : cutW w = cutW v) : w = v := by
  rw [(cut_ok w hw).word, (cut_ok v hv).word, h]
/-! ### places -/
/-- an alphabet: its signs ascend -/
structure Alf (al : List Nat) : Prop where
  asc : al.Pairwise (· < ·)
  pos : 1 ≤ al.length
  six : al.length ≤ 6
  let' : ∀ c ∈ al, (48 ≤ c ∧ c ≤ 57) ∨ (97 ≤ c ∧ c ≤ 122)
theorem Alf.nd {al : List Nat} (h : Alf al) : al.Nodup := h.asc.imp fun h => Nat.ne_of_lt h
theorem idx_lt {al : List Nat} (h : al.Pairwise (· < ·)) {c d : Nat} (hc : c ∈ al) (hd : d ∈ al) : c < d ↔ al.idxOf c < al.idxOf d := by
  have h1 := List.idxOf_lt_length_of_mem hc
  have h2 := List.idxOf_lt_length_of_mem hd
  have e1 := List.getElem_idxOf h1
  have e2 := List.getElem_idxOf h2
  have key : ∀ i j (hi : i < al.length) (hj : j < al.length), i < j → al[i] < al[j] := fun i j hi hj hij => List.pairwise_iff_getElem.mp h i j hi hj hij
  constructor
  · intro hcd
    rcases Nat.lt_trichotomy (al.idxOf c) (al.idxOf d) with q | q | q
    · exact q
    · have : c = d := by rw [← e1, ← e2]; simp only [q]
      omega
    · have := key _ _ h2 h1 q
      rw [e1, e2] at this
      omega
  · intro q
    have := key _ _ h1 h2 q
    rw [e1, e2] at this
    exact this
def plc (al : List Nat) (r : Nat × Nat) : Nat := r.1 * al.length + al.idxOf r.2
theorem plc_lt {al : List Nat} {p c k : Nat} (hc : c ∈ al) (hp : p ≤ k) : plc al (p, c) < (k + 1) * al.length := by
  have h1 := List.idxOf_lt_length_of_mem hc
  have h2 : p * al.length ≤ k * al.length := Nat.mul_le_mul_right _ hp
  unfold plc
  rw [Nat.add_mul, Nat.one_mul]
  show p * al.length + al.idxOf c < _
  omega
def rlt (a b : Nat × Nat) : Prop := a.1 < b.1 ∨ a.1 = b.1 ∧ a.2 < b.2
theorem plc_mono {al : List Nat} (h : al.Pairwise (· < ·)) {a b : Nat × Nat} (ha : a.2 ∈ al) (hb : b.2 ∈ al) (hl : rlt a b) : plc al a < plc al b := by
  rcases hl with hl | ⟨h1, h2⟩
  · have h1 := plc_lt (p := a.1) ha (Nat.le_refl a.1)
    have h2 : (a.1 + 1) * al.length ≤ b.1 * al.length := Nat.mul_le_mul_right _ hl
    unfold plc at h1 ⊢
    show a.1 * al.length + al.idxOf a.2 < b.1 * al.length + al.idxOf b.2
    have h1 : a.1 * al.length + al.idxOf a.2 < (a.1 + 1) * al.length := h1
    omega
  · have := (idx_lt h ha hb).mp h2
    unfold plc
    rw [h1]
    omega
theorem rlt_tri {a b : Nat × Nat} (h : a ≠ b) : rlt a b ∨ rlt b a := by
  obtain ⟨a1, a2⟩ := a
  obtain ⟨b1, b2⟩ := b
  unfold rlt
  rcases Nat.lt_trichotomy a1 b1 with q | q | q
  · exact .inl (.inl q)
  · subst q
    rcases Nat.lt_trichotomy a2 b2 with q | q | q
    · exact .inl (.inr ⟨rfl, q⟩)
    · subst q
      exact absurd rfl h
    · exact .inr (.inr ⟨rfl, q⟩)
  · exact .inr (.inl q)
theorem plc_inj {al : List Nat} (h : al.Pairwise (· < ·)) {a b : Nat × Nat} (ha : a.2 ∈ al) (hb : b.2 ∈ al) (e : plc al a = plc al b) : a = b := by
  refine Classical.byContradiction fun hn => ?_
  rcases rlt_tri hn with q | q
  · have := plc_mono h ha hb q
    omega
  · have := plc_mono h hb ha q
    omega
def rowAt (rs : Rw) (k : Nat) : Nat × Nat := rs.getD k (0, 0)
theorem rowAt_get {rs : Rw} {k : Nat} (h : k < rs.length) : rs[k]? = some (rowAt rs k) := by
  unfold rowAt
  rw [List.getD_eq_getElem?_getD, List.getElem?_eq_getElem h]
  rfl
def pls (al : List Nat) (rs : Rw) : List Nat := rs.map (plc al)
def pnum (al : List Nat) (rs : Rw) (k : Nat) : Nat := plc al (rowAt rs k) - bel (pls al (rs.take k)) (plc al (rowAt rs k))
theorem row_ok {al : List Nat} {rs : Rw} (h : RowsOk al rs) {k : Nat} (hk : k < rs.length) : (rowAt rs k).1 ≤ k ∧ (rowAt rs k).2 ∈ al := h.low k _ _ (rowAt_get hk)
theorem RowsOk.take {al : List Nat} {rs : Rw} (h : RowsOk al rs) (k : Nat) : RowsOk al (rs.take k) := by
  refine ⟨fun i p c e => h.low i p c ?_, h.nd.sublist (List.take_sublist k rs)⟩
  rw [List.getElem?_take] at e
  split at e
  · exact e
  · cases e
theorem mem_row {al : List Nat} {rs : Rw} (h : RowsOk al rs) {r : Nat × Nat} (hr : r ∈ rs) : r.1 + 1 ≤ rs.length ∧ r.2 ∈ al := by
  obtain ⟨j, hj⟩ := List.mem_iff_getElem?.mp hr
  have h1 := h.low j r.1 r.2 hj
  have h2 := (List.getElem?_eq_some_iff.mp hj).1
  exact ⟨by omega, h1.2⟩
theorem pls_nd {al : List Nat} (ha : al.Pairwise (· < ·)) {rs : Rw} (h : RowsOk al rs) : (pls al rs).Nodup := by
  unfold pls
  refine List.pairwise_map.mpr ?_
  have h2 := h.nd
  refine List.Pairwise.imp_of_mem (fun {a b} ma mb hne e => hne ?_) h2
  exact plc_inj ha (mem_row h ma).2 (mem_row h mb).2 e
theorem pls_room {al : List Nat} {rs : Rw} (h : RowsOk al rs) : ∀ z ∈ pls al rs, z < rs.length * al.length := fun z hz => by
  obtain ⟨r, hr, rfl⟩ := List.mem_map.mp hz
  obtain ⟨h1, h2⟩ := mem_row h hr
  have := plc_lt (p := r.1) (k := r.1) h2 (Nat.le_refl _)
  exact Nat.lt_of_lt_of_le this (Nat.mul_le_mul_right _ h1)
theorem free_row {al : List Nat} (ha : al.Pairwise (· < ·)) {rs : Rw} (h : RowsOk al rs) {k : Nat} (hk : k < rs.length) : plc al (rowAt rs k) ∉ pls al (rs.take k) := fun hm => by
  obtain ⟨r, hr, e⟩ := List.mem_map.mp hm
  have h1 := (mem_row (h.take k) hr).2
  have e2 := plc_inj ha h1 (row_ok h hk).2 e
  obtain ⟨j, hj⟩ := List.mem_iff_getElem?.mp hr
  have hjk : j < k := by
    have := (List.getElem?_eq_some_iff.mp hj).1
    rw [List.length_take] at this
    omega
  rw [List.getElem?_take, if_pos hjk] at hj
  have hg := rowAt_get hk
  rw [e2] at hj
  obtain ⟨a1, b1⟩ := List.getElem?_eq_some_iff.mp hj
  obtain ⟨a2, b2⟩ := List.getElem?_eq_some_iff.mp hg
  have := (List.getElem_inj h.nd).mp (b1.trans b2.symm)
  omega
def opt (al : List Nat) (k : Nat) : Nat := (k + 1) * al.length - k + 1
theorem pnum_lt {al : List Nat} (ha : al.Pairwise (· < ·)) (hp : 1 ≤ al.length) {rs : Rw} (h : RowsOk al rs) {k : Nat} (hk : k < rs.length) : 1 + pnum al rs k < opt al k := by
  have hr := row_ok h hk
  have hl := plc_lt (p := (rowAt rs k).1) hr.2 hr.1
  have hn := pls_nd ha (h.take k)
  have hf := free_row ha h hk
  have hT : ∀ z ∈ pls al (rs.take k), z < (k + 1) * al.length := fun z hz => by
    have h1 := pls_room (h.take k) z hz
    rw [List.length_take, Nat.min_eq_left (by omega)] at h1
    exact Nat.lt_of_lt_of_le h1 (Nat.mul_le_mul_right _ (by omega))
  have key := bel_room hn (x := plc al (rowAt rs k)) hl hf hT
  have e : (pls al (rs.take k)).length = k := by
    unfold pls
    rw [List.length_map, List.length_take]
    omega
  rw [e] at key
  unfold pnum opt
  omega
/-! ### the numbers of the block -/
def num (al : List Nat) (rs : Rw) (k : Nat) : Nat := if k < rs.length then 1 + pnum al rs k else 0
theorem opt_two {al : List Nat} (hp : 1 ≤ al.length) (k : Nat) : 2 ≤ opt al k := by
  unfold opt
  have : (k + 1) * 1 ≤ (k + 1) * al.length := Nat.mul_le_mul_left _ hp
  omega
theorem num_lt {al : List Nat} (ha : al.Pairwise (· < ·)) (hp : 1 ≤ al.length) {rs : Rw} (h : RowsOk al rs) {k : Nat} : num al rs k < opt al k := by
  unfold num
  split
  · exact pnum_lt ha hp h (by assumption)
  · have := opt_two hp k
    omega
theorem num_same {al : List Nat} {rs rt : Rw} {s : Nat} (e : rs.take s = rt.take s) (h1 : s ≤ rs.length) (h2 : s ≤ rt.length) {k : Nat} (hk : k < s) : num al rs k = num al rt k := by
  unfold num pnum
  have er : rowAt rs k = rowAt rt k := by
    unfold rowAt
    rw [List.getD_eq_getElem?_getD, List.getD_eq_getElem?_getD]
    have a : (rs.take s)[k]? = rs[k]? := by rw [List.getElem?_take, if_pos hk]
    have b : (rt.take s)[k]? = rt[k]? := by rw [List.getElem?_take, if_pos hk]
    rw [← a, ← b, e]
  have et : rs.take k = rt.take k := by
    have a : (rs.take s).take k = rs.take k := by rw [List.take_take, Nat.min_eq_left (by omega)]
    have b : (rt.take s).take k = rt.take k := by rw [List.take_take, Nat.min_eq_left (by omega)]
    rw [← a, ← b, e]
  rw [if_pos (by omega), if_pos (by omega), er, et]
def wid (n : Nat) : Nat := (bitsOf (n : Int)).toNat
def nbl (n m : Nat) : List Nat := nbL n (wid m)
theorem nbl_ok {n m : Nat} (h : n < m) : Nb (nbl n m) (n : Int) (wid m) := by
  have := bits_lt (n := (n : Int)) (m := (m : Int)) (by omega) (by omega)
  rw [Int.toNat_natCast] at this
  exact nb_ok this
def prt (al : List Nat) (rs : Rw) (k : Nat) : List Nat := nbl (num al rs k) (opt al k)
def pre (al : List Nat) (rs : Rw) : Nat → List Nat
  | 0 => []
  | k + 1 => pre al rs k ++ prt al rs k
def rch (al : List Nat) : Nat → Nat
  | 0 => 0
  | k + 1 => rch al k + wid (opt al k)
def blk (al : List Nat) (s : Rw × Nat) : List Nat := pre al s.1 (s.1.length + 1) ++ nbl s.2 (s.1.length + 1)
theorem pre_len {al : List Nat} (ha : al.Pairwise (· < ·)) (hp : 1 ≤ al.length) {rs : Rw} (h : RowsOk al rs) : ∀ k, (pre al rs k).length = rch al k
  | 0 => rfl
  | k + 1 => by
    show (pre al rs k ++ nbl (num al rs k) (opt al k)).length = rch al k + wid (opt al k)
    rw [List.length_append, pre_len ha hp h k, (nbl_ok (num_lt ha hp h)).len]
theorem pre_same {al : List Nat} {rs rt : Rw} {s : Nat} (e : rs.take s = rt.take s) (h1 : s ≤ rs.length) (h2 : s ≤ rt.length) : ∀ k, k ≤ s → pre al rs k = pre al rt k
  | 0, _ => rfl
  | k + 1, hk => by
    show pre al rs k ++ prt al rs k = pre al rt k ++ prt al rt k
    rw [pre_same e h1 h2 k (by omega)]
    unfold prt
    rw [num_same e h1 h2 (by omega)]
theorem pre_split {al : List Nat} {rs : Rw} {s : Nat} : ∀ n, s < n → ∃ U, pre al rs n = pre al rs s ++ (prt al rs s ++ U)
  | 0, h => absurd h (Nat.not_lt_zero _)
  | n + 1, h => by
    by_cases c : s = n
    · subst c
      exact ⟨[], by show pre al rs s ++ prt al rs s = _; simp⟩
    · obtain ⟨U, e⟩ := pre_split (al := al) (rs := rs) (s := s) n (by omega)
      refine ⟨U ++ prt al rs n, ?_⟩
      show pre al rs n ++ prt al rs n = _
      rw [e]
      simp
theorem blk_len {al : List Nat} (ha : al.Pairwise (· < ·)) (hp : 1 ≤ al.length) {rs : Rw} (h : RowsOk al rs) {t : Nat} (ht : t ≤ rs.length) : (blk al (rs, t)).length = rch al (rs.length + 1) + wid (rs.length + 1) := by
  show (pre al rs (rs.length + 1) ++ nbl t (rs.length + 1)).length = _
  rw [List.length_append, pre_len ha hp h, (nbl_ok (show t < rs.length + 1 by omega)).len]
/-- A and B agree on R signs, and differ within the next W: there A is before B just where less -/
structure Parted (A B : List Nat) (R W : Nat) (less : Bool) : Prop where
  ex : ∃ P X Y U V, A = P ++ (X ++ U) ∧ B = P ++ (Y ++ V) ∧ P.length = R ∧ X.length = W ∧ Y.length = W ∧ if less = true then X < Y else Y < X
theorem nbl_lex {n k m : Nat} (hn : n < m) (hk : k < m) (h : n < k) : nbl n m < nbl k m := by
  have a := nbl_ok hn
  have b := nbl_ok hk
  exact lex_of_val _ _ (a.len.trans b.len.symm) a.digs b.digs (by rw [a.v, b.v]; omega)
theorem parted_of {al : List Nat} {P U V : List Nat} {n k m R : Nat} {less : Bool} (hn : n < m) (hk : k < m) (hP : P.length = R) (h : if less = true then n < k else k < n) : Parted (P ++ (nbl n m ++ U)) (P ++ (nbl k m ++ V)) R (wid m) less := by
  refine ⟨P, nbl n m, nbl k m, U, V, rfl, rfl, hP, (nbl_ok hn).len, (nbl_ok hk).len, ?_⟩
  cases less with
  | true => exact nbl_lex hn hk h
  | false => exact nbl_lex hk hn h
/-- the rows agree up to s, and there one ends or they differ -/
theorem parted_rows {al : List Nat} (A : Alf al) {rs rt : Rw} {t u s : Nat} (h1 : RowsOk al rs) (h2 : RowsOk al rt) (e : rs.take s = rt.take s) (l1 : s ≤ rs.length) (l2 : s ≤ rt.length) {less : Bool}
    (h : if less = true then num al rs s < num al rt s else num al rt s < num al rs s) : Parted (blk al (rs, t)) (blk al (rt, u)) (rch al s) (wid (opt al s)) less := by
  obtain ⟨U, e1⟩ := pre_split (al := al) (rs := rs) (s := s) (rs.length + 1) (by omega)
  obtain ⟨V, e2⟩ := pre_split (al := al) (rs := rt) (s := s) (rt.length + 1) (by omega)
  have p1 := pre_same (al := al) e l1 l2 s (Nat.le_refl _)
  show Parted (pre al rs (rs.length + 1) ++ nbl t (rs.length + 1)) (pre al rt (rt.length + 1) ++ nbl u (rt.length + 1)) _ _ _
  rw [e1, e2, List.append_assoc, List.append_assoc, List.append_assoc, List.append_assoc, ← p1]
  exact parted_of (al := al) (num_lt A.asc A.pos h1) (num_lt A.asc A.pos h2) (pre_len A.asc A.pos h1 s) h
theorem num_end {al : List Nat} {rs : Rw} : num al rs rs.length = 0 := if_neg (Nat.lt_irrefl _)
theorem num_pos {al : List Nat} {rs : Rw} {k : Nat} (h : k < rs.length) : num al rs k = 1 + pnum al rs k := if_pos h
theorem num_row {al : List Nat} (A : Alf al) {rs rt : Rw} {s : Nat} (h1 : RowsOk al rs) (h2 : RowsOk al rt) (e : rs.take s = rt.take s) (l1 : s < rs.length) (l2 : s < rt.length) (h : rlt (rowAt rs s) (rowAt rt s)) : num al rs s < num al rt s := by
  rw [num_pos l1, num_pos l2]
  unfold pnum
  have k1 := plc_mono A.asc (row_ok h1 l1).2 (row_ok h2 l2).2 h
  have k2 := bel_lt (pls_nd A.asc (h1.take s)) k1 (free_row A.asc h1 l1)
  rw [← e]
  omega
/-- both have the same rows: the tails tell -/
theorem parted_tails {al : List Nat} (A : Alf al) {rs : Rw} {t u : Nat} (h1 : RowsOk al rs) (ht : t ≤ rs.length) (hu : u ≤ rs.length) {less : Bool} (h : if less = true then t < u else u < t) :
    Parted (blk al (rs, t)) (blk al (rs, u)) (rch al (rs.length + 1)) (wid (rs.length + 1)) less := by
  have p := parted_of (al := al) (P := pre al rs (rs.length + 1)) (U := []) (V := []) (n := t) (k := u) (m := rs.length + 1) (R := rch al (rs.length + 1)) (less := less) (by omega) (by omega) (pre_len A.asc A.pos h1 _) h
  rw [List.append_nil, List.append_nil] at p
  exact p
theorem Parted.not_pre {A B : List Nat} {R W : Nat} {less : Bool} (h : Parted A B R W less) : ¬ A <+: B ∧ ¬ B <+: A := by
  obtain ⟨P, X, Y, U, V, rfl, rfl, hP, hX, hY, hl⟩ := h.ex
  have ne : X ≠ Y := fun e => by
    subst e
    cases less with
    | true => exact List.lt_irrefl _ hl
    | false => exact List.lt_irrefl _ hl
  have key : ∀ {X Y U V : List Nat}, X.length = Y.length → P ++ (X ++ U) <+: P ++ (Y ++ V) → X = Y := fun hxy hp => by
    obtain ⟨Z, hz⟩ := hp
    rw [List.append_assoc, List.append_assoc] at hz
    have h2 := List.append_cancel_left hz
    exact (List.append_inj h2 hxy).1
  exact ⟨fun hp => ne (key (hX.trans hY.symm) hp), fun hp => ne (key (hY.trans hX.symm) hp).symm⟩
theorem Parted.cut {A B : List Nat} {R W : Nat} {less : Bool} (h : Parted A B R W less) : R + W ≤ A.length ∧ R + W ≤ B.length ∧ A.take R = B.take R ∧
    (if less = true then (A.drop R).take W < (B.drop R).take W else (B.drop R).take W < (A.drop R).take W) := by
  obtain ⟨P, X, Y, U, V, rfl, rfl, hP, hX, hY, hl⟩ := h.ex
  subst hP
  have t1 : ∀ {Z : List Nat}, (P ++ Z).take P.length = P := fun {Z} => by simp
  have t2 : ∀ {Z : List Nat}, (P ++ Z).drop P.length = Z := fun {Z} => by simp
  have t3 : (X ++ U).take W = X := by rw [← hX]; simp
  have t4 : (Y ++ V).take W = Y := by rw [← hY]; simp
  refine ⟨?_, ?_, ?_, ?_⟩
  · simp only [List.length_append]
    omega
  · simp only [List.length_append]
    omega
  · rw [t1, t1]
  · rw [t2, t2, t3, t4]
    exact hl
theorem rch_mono {al : List Nat} : ∀ {i j : Nat}, i ≤ j → rch al i ≤ rch al j := by
  intro i j h
  induction h with
  | refl => exact Nat.le_refl _
  | @step k _ ih =>
    show rch al i ≤ rch al k + _
    omega
theorem wid_pow {n : Nat} (h : 1 ≤ n) : n ≤ 2 ^ wid n := by
  have := bits_lt (n := ((n - 1 : Nat) : Int)) (m := (n : Int)) (by omega) (by omega)
  rw [Int.toNat_natCast] at this
  unfold wid
  omega
theorem wid_mono {n m : Nat} (h1 : 1 ≤ n) (h : n ≤ m) : wid n ≤ wid m := by
  have hp := wid_pow (show 1 ≤ m by omega)
  have := bits_le (m := (n : Int)) (b := wid m) (by omega) (by
    have e : (2 : Int) ^ wid m = ((2 ^ wid m : Nat) : Int) := by
      rw [Int.natCast_pow]
      rfl
    rw [e]
    omega)
  unfold wid at this ⊢
  omega
theorem wid_two {n : Nat} (h : 2 ≤ n) : 1 ≤ wid n := by
  have hp := wid_pow (show 1 ≤ n by omega)
  cases e : wid n with
  | zero =>
    rw [e] at hp
    simp at hp
    omega
  | succ k => omega
def bln (al : List Nat) (m : Nat) : Nat := rch al (m + 1) + wid (m + 1)
theorem bln_lt {al : List Nat} (hp : 1 ≤ al.length) {m k : Nat} (h : m < k) : bln al m < bln al k := by
  have h1 := rch_mono (al := al) (show m + 2 ≤ k + 1 by omega)
  have h2 := wid_two (opt_two hp (m + 1))
  have h3 := wid_mono (n := m + 1) (m := k + 1) (by omega) (by omega)
  have h4 : rch al (m + 2) = rch al (m + 1) + wid (opt al (m + 1)) := rfl
  unfold bln
  omega
theorem bln_iff {al : List Nat} (hp : 1 ≤ al.length) {m k : Nat} : (bln al m < bln al k ↔ m < k) ∧ (bln al m = bln al k ↔ m = k) := by
  rcases Nat.lt_trichotomy m k with h | h | h
  · have := bln_lt hp h
    omega
  · subst h
    omega
  · have := bln_lt hp h
    omega
/-- what the law computes of two cuts whose rows agree up to s -/
def lR (al : List Nat) (a b : Rw × Nat) (s : Nat) : Nat := if s = a.1.length ∧ s = b.1.length then rch al (s + 1) else rch al s
def lW (al : List Nat) (a b : Rw × Nat) (s : Nat) : Nat := if s = a.1.length ∧ s = b.1.length then wid (s + 1) else wid (opt al s)
def rltb (a b : Nat × Nat) : Bool := decide (a.1 < b.1 ∨ a.1 = b.1 ∧ a.2 < b.2)
def lL (a b : Rw × Nat) (s : Nat) : Bool := if s = a.1.length ∧ s = b.1.length then decide (a.2 < b.2) else if s = a.1.length ∨ s = b.1.length then decide (a.1.length < b.1.length) else rltb (rowAt a.1 s) (rowAt b.1 s)
structure Agree (a b : Rw) (s : Nat) : Prop where
  same : a.take s = b.take s
  l1 : s ≤ a.length
  l2 : s ≤ b.length
  last : s = a.length ∨ s = b.length ∨ rowAt a s ≠ rowAt b s
theorem law_pair {al w v : List Nat} (A : Alf al) (hw : ∀ c ∈ w, c ∈ al) (hv : ∀ c ∈ v, c ∈ al) (ne : w ≠ v) {s : Nat} (g : Agree (cutW w).1 (cutW v).1 s) :
    Parted (blk al (cutW w)) (blk al (cutW v)) (lR al (cutW w) (cutW v) s) (lW al (cutW w) (cutW v) s) (lL (cutW w) (cutW v) s) := by
  have k1 := cut_ok w hw
  have k2 := cut_ok v hv
  have hne : cutW w ≠ cutW v := fun e => ne (cut_inj hw hv e)
  generalize cutW w = a at *
  generalize cutW v = b at *
  obtain ⟨rs, t⟩ := a
  obtain ⟨rt, u⟩ := b
  have o1 : RowsOk al rs := k1.ok
  have o2 : RowsOk al rt := k2.ok
  have t1 : t ≤ rs.length := k1.low
  have t2 : u ≤ rt.length := k2.low
  obtain ⟨same, l1, l2, last⟩ := g
  have l1 : s ≤ rs.length := l1
  have l2 : s ≤ rt.length := l2
  have same : rs.take s = rt.take s := same
  have last : s = rs.length ∨ s = rt.length ∨ rowAt rs s ≠ rowAt rt s := last
  unfold lR lW lL
  show Parted _ _ (if s = rs.length ∧ s = rt.length then rch al (s + 1) else rch al s) (if s = rs.length ∧ s = rt.length then wid (s + 1) else wid (opt al s)) (if s = rs.length ∧ s = rt.length then decide (t < u) else if s = rs.length ∨ s = rt.length then decide (rs.length < rt.length) else rltb (rowAt rs s) (rowAt rt s))
  by_cases c : s = rs.length ∧ s = rt.length
  · rw [if_pos c, if_pos c, if_pos c]
    have er : rs = rt := by
      rw [List.take_of_length_le (by omega), List.take_of_length_le (by omega)] at same
      exact same
    subst er
    have htu : t ≠ u := fun e => hne (by rw [e])
    rw [c.1]
    refine parted_tails A o1 t1 t2 ?_
    by_cases q : t < u
    · rw [if_pos (decide_eq_true q)]
      exact q
    · rw [if_neg (by simpa using q)]
      omega
  · rw [if_neg c, if_neg c, if_neg c]
    refine parted_rows A o1 o2 same l1 l2 ?_
    by_cases d : s = rs.length ∨ s = rt.length
    · rw [if_pos d]
      rcases d with d | d
      · have hlt : rs.length < rt.length := by omega
        rw [if_pos (decide_eq_true hlt)]
        have h0 : num al rs s = 0 := by
          rw [d]
          exact num_end
        rw [h0, num_pos (by omega)]
        omega
      · have hlt : ¬ rs.length < rt.length := by omega
        rw [if_neg (by simpa using hlt)]
        have h0 : num al rt s = 0 := by
          rw [d]
          exact num_end
        rw [h0, num_pos (by omega)]
        omega
    · rw [if_neg d]
      have d1 : s < rs.length := by omega
      have d2 : s < rt.length := by omega
      have hn : rowAt rs s ≠ rowAt rt s := by
        rcases last with z | z | z
        · exact absurd (.inl z) d
        · exact absurd (.inr z) d
        · exact z
      by_cases q : rlt (rowAt rs s) (rowAt rt s)
      · rw [if_pos (show rltb (rowAt rs s) (rowAt rt s) = true from decide_eq_true q)]
        exact num_row A o1 o2 same d1 d2 q
      · rw [if_neg (show ¬ rltb (rowAt rs s) (rowAt rt s) = true from fun h => q (by unfold rltb at h; unfold rlt; exact of_decide_eq_true h))]
        have q2 := (rlt_tri hn).resolve_left q
        exact num_row A o2 o1 same.symm d2 d1 q2
theorem blk_cut_len {al w : List Nat} (A : Alf al) (hw : ∀ c ∈ w, c ∈ al) : (blk al (cutW w)).length = bln al (cutW w).1.length := by
  have k := cut_ok w hw
  exact blk_len A.asc A.pos k.ok k.low
/-- one there is: the rows agree up to some place -/
theorem agree_ex : ∀ (a b : Rw), ∃ s, Agree a b s := by
  intro a b
  have h : ∀ n, n ≤ a.length → n ≤ b.length → a.take n = b.take n → ∃ s, Agree a b s := by
    intro n
    generalize hd : a.length - n = d
    induction d generalizing n with
    | zero => exact fun h1 h2 e => ⟨n, e, h1, h2, .inl (by omega)⟩
    | succ d ih =>
      intro h1 h2 e
      by_cases c : n = b.length
      · exact ⟨n, e, h1, h2, .inr (.inl c)⟩
      · by_cases q : rowAt a n = rowAt b n
        · refine ih (n + 1) (by omega) (by omega) (by omega) ?_
          rw [List.take_add_one, List.take_add_one, e, rowAt_get (by omega), rowAt_get (by omega), q]
        · exact ⟨n, e, h1, h2, .inr (.inr q)⟩
  exact h 0 (Nat.zero_le _) (Nat.zero_le _) rfl
theorem blk_not_pre {al w v : List Nat} (A : Alf al) (hw : ∀ c ∈ w, c ∈ al) (hv : ∀ c ∈ v, c ∈ al) (ne : w ≠ v) : ¬ blk al (cutW w) <+: blk al (cutW v) := by
  obtain ⟨s, g⟩ := agree_ex (cutW w).1 (cutW v).1
  exact (law_pair A hw hv ne g).not_pre.1
end Ver
namespace Ver
open PySem PySem.Spec PyProof.Rows L2 Evl
structure At (K : PySem.W.Frag) (mg : Str → Option Value) (x : Str) (st : Stmt) : Prop where
  ex : ∃ f fd, Fun K x x st f fd ∧ mg x = some (.ref f)
def Has (P : Program) (w : World) (K : PySem.W.Frag) (mg : Str → Option Value) (base : Heap) (x : Str) (st : Stmt) (ps : List Str) (k : Nat) (sp : Sp) : Prop :=
  ∃ f fd, Fun K x x st f fd ∧ FnOk P w K mg base CX0 k f fd ps sp ∧ Binds K fd ps [] ∧ mg x = some (.ref f) ∧ PySem.W.keepIn K (.ref f) = true
/-- an __init__, and the class that it makes -/
structure AtI (K : PySem.W.Frag) (C : Addr) (q : Str) (st : Stmt) : Prop where
  ex : ∃ f fd, Fun K "__init__" q st f fd ∧ Mk K C f
def HasI (P : Program) (w : World) (K : PySem.W.Frag) (mg : Str → Option Value) (base : Heap) (C : Addr) (ps : List Str) (k : Nat) (sp : Sp) : Prop :=
  ∃ f fd, FnOk P w K mg base CX0 k f fd ps sp ∧ Binds K fd ps [] ∧ Mk K C f
/-! ### data of the heap -/
structure RowsAt (H : Hp) (xs : List V) (rs : Rw) : Prop where
  len : xs.length = rs.length
  row : ∀ (i p c : Nat), rs[i]? = some (p, c) → ∃ r, xs[i]? = some (V.ref r) ∧ H r = some (.tup [.int (p : Int), tx [c]])
theorem RowsAt.mono {H H' : Hp} {xs : List V} {rs : Rw} (h : RowsAt H xs rs) (e : Ex H H') : RowsAt H' xs rs := ⟨h.len, fun i p c q => by
  obtain ⟨r, a, b⟩ := h.row i p c q
  exact ⟨r, a, e _ _ b⟩⟩
/-- what is no tuple may change -/
theorem RowsAt.upd {H : Hp} {xs : List V} {rs : Rw} {l : Addr} {o u : HO} (h : RowsAt H xs rs) (hl : H l = some u) (hu : ∀ ys, u ≠ .tup ys) : RowsAt (upd H l o) xs rs := ⟨h.len, fun i p c q => by
  obtain ⟨r, a, b⟩ := h.row i p c q
  refine ⟨r, a, ?_⟩
  rw [upd_ne]
  · exact b
  · intro z
    rw [z, hl] at b
    exact hu _ (Option.some.inj b)⟩
theorem RowsAt.nil {H : Hp} : RowsAt H [] [] := ⟨rfl, fun i p c q => by simp at q⟩
theorem RowsAt.snoc {H : Hp} {xs : List V} {rs : Rw} {r : Addr} {p c : Nat} (h : RowsAt H xs rs) (hr : H r = some (.tup [.int (p : Int), tx [c]])) : RowsAt H (xs ++ [.ref r]) (rs ++ [(p, c)]) := by
  refine ⟨by rw [List.length_append, List.length_append, h.len]; rfl, fun i q d e => ?_⟩
  by_cases hi : i < rs.length
  · rw [List.getElem?_append_left hi] at e
    obtain ⟨r', a, b⟩ := h.row i q d e
    exact ⟨r', by rw [List.getElem?_append_left (by rw [h.len]; exact hi)]; exact a, b⟩
  · have h1 := (List.getElem?_eq_some_iff.mp e).1
    rw [List.length_append] at h1
    have e2 : i = rs.length := by
      simp at h1
      omega
    subst e2
    have e3 : (p, c) = (q, d) := by simpa using e
    cases e3
    refine ⟨r, ?_, hr⟩
    rw [← h.len]
    simp
theorem RowsAt.get {H : Hp} {xs : List V} {rs : Rw} (h : RowsAt H xs rs) {i : Nat} {x : V} (hx : xs[i]? = some x) : i < rs.length ∧ ∃ r, x = .ref r ∧ H r = some (.tup [.int ((rowAt rs i).1 : Int), tx [(rowAt rs i).2]]) := by
  have hi : i < rs.length := by
    rw [← h.len]
    exact (List.getElem?_eq_some_iff.mp hx).1
  refine ⟨hi, ?_⟩
  obtain ⟨r, a, b⟩ := h.row i _ _ (rowAt_get hi)
  rw [a] at hx
  exact ⟨r, (Option.some.inj hx).symm, b⟩
/-! ### promises' shapes -/
def RetU (xs : List V) (H : Hp) (Q : VK) : Prop := ∀ p H2, H p = none → Ex H H2 → H2 p = some (.tup xs) → Q (.ref p) H2
section
variable {K : PySem.W.Frag} {σ : L2.St} {H : Hp} {ta tb te : TE} {t : TT} {tu tz : TS} {D : Ends}
/-! ### texts -/
theorem rc_lenS {l : List Nat} (h : l.length ≤ 100000) : RC (fun vs H Q => ∃ z : Str, vs = [.str z] ∧ z.length ≤ sizeLine ∧ Q (.int (z.length : Int)) H) [tx l] H (.int (l.length : Int)) := fun H1 _ Q q =>
  ⟨SX.S l, rfl, by rw [SX.S_len]; exact sz_of h, by rw [SX.S_len]; exact q H1 (Ex.refl H1)⟩
theorem ev_lenS {l : List Nat} (h : l.length ≤ 100000) (ha : Ev ta σ H (tx l)) : Ev (tCB (fun vs H Q => ∃ z : Str, vs = [.str z] ∧ z.length ≤ sizeLine ∧ Q (.int (z.length : Int)) H) (tCons ta tNil)) σ H (.int (l.length : Int)) := ev_cb (ea_cons ha ea_nil) (rc_lenS h)
theorem rv_ltS {a b : List Nat} : RV (fun x y H Q => ∃ i j : Str, x = .str i ∧ y = .str j ∧ Q (.bl (decide (i.cps.toList < j.cps.toList))) H) (tx a) (tx b) H (.bl (decide (a < b))) := fun H1 _ _ q => ⟨_, _, rfl, rfl, q H1 (Ex.refl H1)⟩
theorem ev_catS {a b : List Nat} (h : a.length + b.length ≤ 100000) (ha : Ev ta σ H (tx a)) (hb : Ev tb σ H (tx b)) : Ev (tOp (fun x y H Q => ∃ i j : Str, x = .str i ∧ y = .str j ∧ i.length + j.length ≤ sizeLine ∧ Q (.str (i ++ j)) H) ta tb) σ H (tx (a ++ b)) :=
  ev_op ha hb fun H1 _ Q q => ⟨_, _, rfl, rfl, by rw [SX.S_len, SX.S_len]; exact sz_of h, by rw [SX.S_cat]; exact q H1 (Ex.refl H1)⟩
theorem et_neS {a b : List Nat} (ha : Ev ta σ H (tx a)) (hb : Ev tb σ H (tx b)) : EvT (tTest (tOp rNe ta tb)) σ H (!decide (a = b)) := et_test (ev_is (ev_op ha hb (rv_ne rfl)) (by rw [tx_dec]))
theorem et_eqS {a b : List Nat} (ha : Ev ta σ H (tx a)) (hb : Ev tb σ H (tx b)) : EvT (tTest (tOp rEq ta tb)) σ H (decide (a = b)) := et_test (ev_is (ev_op ha hb (rv_eq rfl)) (by rw [tx_dec]))
theorem rv_inSign {c : Nat} {l : List Nat} : RV (fun x y H Q => ∃ (c : Nat) (z : Str), x = .str ⟨#[c]⟩ ∧ y = .str z ∧ Q (.bl (decide (c ∈ z.cps.toList))) H) (tx [c]) (tx l) H (.bl (decide (c ∈ l))) := fun H1 _ _ q => ⟨c, SX.S l, rfl, rfl, q H1 (Ex.refl H1)⟩
theorem cutS_all {l : List Nat} {lo hi : Option Int} : cutS (SX.S l) lo hi = SX.S ((l.drop (HT.sIx l.length 0 lo)).take (HT.sIx l.length l.length hi - HT.sIx l.length 0 lo)) := by
  unfold cutS
  rw [SX.S_len]
def cutL (l : List Nat) (lo hi : Option Int) : List Nat := (l.drop (HT.sIx l.length 0 lo)).take (HT.sIx l.length l.length hi - HT.sIx l.length 0 lo)
theorem cutL_from {l : List Nat} (n : Nat) : cutL l (some (n : Int)) none = l.drop n := by
  unfold cutL
  rw [HT.sIx_none, HT.sIx_nat]
  by_cases h : n ≤ l.length
  · rw [Nat.min_eq_left h]
    exact List.take_of_length_le (by rw [List.length_drop]; omega)
  · rw [Nat.min_eq_right (by omega), Nat.sub_self, List.take_zero, List.drop_eq_nil_of_le (by omega)]
theorem cutL_to {l : List Nat} (n : Nat) : cutL l none (some (n : Int)) = l.take n := by
  unfold cutL
  rw [HT.sIx_none, HT.sIx_nat]
  simp only [Nat.sub_zero, List.drop_zero]
  by_cases h : n ≤ l.length
  · rw [Nat.min_eq_left h]
  · rw [Nat.min_eq_right (by omega), List.take_length, List.take_of_length_le (by omega)]
theorem cutL_both {l : List Nat} (a b : Nat) : cutL l (some (a : Int)) (some ((a + b : Nat) : Int)) = (l.drop a).take b := by
  unfold cutL
  rw [HT.sIx_nat, HT.sIx_nat]
  by_cases h : a ≤ l.length
  · rw [Nat.min_eq_left h]
    by_cases h2 : a + b ≤ l.length
    · rw [Nat.min_eq_left h2]
      congr 1
      omega
    · rw [Nat.min_eq_right (by omega), List.take_of_length_le (by rw [List.length_drop]; omega), List.take_of_length_le (by rw [List.length_drop]; omega)]
  · rw [Nat.min_eq_right (by omega), Nat.min_eq_right (by omega), Nat.sub_self, List.take_zero, List.drop_eq_nil_of_le (by omega)]
    simp
theorem cutL_sub {l : List Nat} {lo hi : Option Int} : ∀ c ∈ cutL l lo hi, c ∈ l := fun c h => List.mem_of_mem_drop (List.mem_of_mem_take h)
theorem cutL_len {l : List Nat} {lo hi : Option Int} : (cutL l lo hi).length ≤ l.length := by
  unfold cutL
  rw [List.length_take, List.length_drop]
  omega
theorem ev_slS {l : List Nat} {tl th : TO} {lo hi : Option Int} (hz : l.length ≤ 100000) (h : Ev te σ H (tx l)) (h1 : EvO tl σ H lo) (h2 : EvO th σ H hi) : Ev (tSl rSlS te tl th) σ H (tx (cutL l lo hi)) := fun H1 e Q q =>
  h H1 e _ fun H2 e2 => h1 H2 (e.trans e2) _ fun H3 e3 => h2 H3 ((e.trans e2).trans e3) _ fun H4 e4 =>
    ⟨SX.S l, rfl, by rw [SX.S_len]; exact sz_of hz, by rw [cutS_all]; exact q H4 ((e2.trans e3).trans e4)⟩
theorem ev_ixS {l : List Nat} {i c : Nat} (hz : l.length ≤ 100000) (hi : l[i]? = some c) (ha : Ev ta σ H (tx l)) (hb : Ev tb σ H (.int (i : Int))) : Ev (tOp rIxS ta tb) σ H (tx [c]) :=
  ev_op ha hb (rv_ixS (w := SX.S l) (by rw [SX.S_len]; exact hz) (atI_nat hi))
theorem ev_mulS {l : List Nat} {n : Nat} (h1 : n ≤ 100000) (h2 : l.length * n ≤ 100000) (ha : Ev ta σ H (tx l)) (hb : Ev tb σ H (.int (n : Int))) : Ev (tOp rMulS ta tb) σ H (tx (List.replicate n l).flatten) :=
  ev_op ha hb fun H1 _ Q q => ⟨l, n, rfl, rfl, h1, h2, q H1 (Ex.refl H1)⟩
/-! ### lists made on the way -/
theorem ev_allN {bs : List Bool} (ha : EvL ta σ H (bs.map V.bl)) : Ev (tCB (rAll K) (tCons ta tNil)) σ H (.bl (bs.all id)) := fun H1 e Q q =>
  ha H1 e _ fun p H2 _ e2 h2 => ⟨p, bs, rfl, sq_of h2, q H2 e2⟩
theorem eu_tupOfL {xs : List V} (ha : EvL ta σ H xs) : EvU (tCB (fun xs H Q => ∃ p ys, xs = [.ref p] ∧ ((SqL K H p ys ∧ ∀ l, H l = none → Q (.ref l) (upd H l (.tup ys))) ∨ (SqT K H p ys ∧ Q (.ref p) H))) (tCons ta tNil)) σ H xs := fun H1 e Q q =>
  ha H1 e _ fun p H2 _ e2 h2 => ⟨p, xs, rfl, .inl ⟨sq_of h2, fun l hl => q l _ (fresh_back e2 hl) (e2.trans (Ex.new hl)) upd_same⟩⟩
theorem eu_tupOf {p : Addr} {xs : List V} (ha : Ev ta σ H (.ref p)) (hp : SqL K H p xs) : EvU (tCB (fun xs H Q => ∃ p ys, xs = [.ref p] ∧ ((SqL K H p ys ∧ ∀ l, H l = none → Q (.ref l) (upd H l (.tup ys))) ∨ (SqT K H p ys ∧ Q (.ref p) H))) (tCons ta tNil)) σ H xs := fun H1 e Q q =>
  ha H1 e _ fun H2 e2 => ⟨p, xs, rfl, .inl ⟨ex_l (e.trans e2) hp, fun l hl => q l _ (fresh_back e2 hl) (e2.trans (Ex.new hl)) upd_same⟩⟩
theorem rc_lenT {p : Addr} {xs : List V} (h : SqT K H p xs) : RC (fun vs H Q => ∃ p ys, vs = [V.ref p] ∧ (SqL K H p ys ∨ SqT K H p ys) ∧ Q (V.int ys.length) H) [.ref p] H (.int xs.length) := fun H1 e _ q =>
  ⟨p, xs, rfl, .inr (ex_t e h), q H1 (Ex.refl H1)⟩
/-- a list made over zip(text, text) -/
theorem el_lcZ {x y : List Nat} {tp : TA} {j1 j2 : Nat} {vs : List Nat} (v : Nat → V) (h : EvA tp σ H [tx x, tx y]) (hz : x.length ≤ 40000)
    (hw : ∀ a b, wipe (((wipe σ vs).set j1 (some a)).set j2 (some b)) vs = wipe σ vs)
    (he : ∀ (i c d : Nat) H1, Ex H H1 → x[i]? = some c → y[i]? = some d → Ev te (((wipe σ vs).set j1 (some (tx [c]))).set j2 (some (tx [d]))) H1 (v i)) :
    EvL (tLc (iZipS tp) (gTup K 2 (gCons (gName j1) (gCons (gName j2) gNil))) tYes te vs) σ H ((List.range (min x.length y.length)).map v) := fun H0 e Q q => h H0 e _ fun H1 e1 => ⟨SX.S x, SX.S y, rfl, fun Dl hD => by
  have hn : min (SX.S x).cps.size (SX.S y).cps.size = min x.length y.length := by
    show min x.toArray.size y.toArray.size = _
    simp
  refine lc_it walk_zs (Cw H1 (fun _ => true) v Dl) ⟨hD, Ex.new hD, upd_same⟩ (fun _ _ _ _ => trivial) (fun i z H' H2 hi p yp => ?_) (fun H' p => ?_)
  · obtain ⟨T, a, b, rfl, hT, rfl, ha, hb⟩ := yp
    have ha2 : (x[i]?).map (fun c => tx [c]) = some a := ha
    have hb2 : (y[i]?).map (fun c => tx [c]) = some b := hb
    cases hx : x[i]? with
    | none =>
      rw [hx] at ha2
      cases ha2
    | some c =>
    cases hy : y[i]? with
    | none =>
      rw [hy] at hb2
      cases hb2
    | some d =>
    rw [hx] at ha2
    rw [hy] at hb2
    cases ha2
    cases hb2
    have hxl := (List.getElem?_eq_some_iff.mp hx).1
    have p2 : Cw H1 (fun _ => true) v Dl i (L2.upd H' T (.tup [tx [c], tx [d]])) := ⟨p.1, p.2.1.trans (Ex.new hT), Ex.new hT _ _ p.2.2⟩
    exact ⟨T, _, rfl, st_of upd_same, rfl, _, _, rfl, _, _, rfl, rfl, hw _ _, cw_turn p2 (by omega) et_yes fun _ => he i c d H1 (e.trans e1) hx hy⟩
  · rw [hn] at p
    have e9 := given_all (min x.length y.length) v
    have p3 := p.2.2
    rw [e9] at p3
    exact q Dl H' (fresh_back e1 p.1) (e1.trans p.2.1) p3⟩
end
end Ver
namespace Ver
open PySem PySem.Spec PyProof.Rows L2 Evl
section
variable {K : PySem.W.Frag} {σ : L2.St} {H : Hp} {ta tb tc te tl ty td : TE} {t : TT} {tu tz : TS} {D : Ends}
abbrev gPair (K : PySem.W.Frag) (j1 j2 : Nat) : TG := gTup K 2 (gCons (gName j1) (gCons (gName j2) gNil))
theorem q_drop {v : V} (h : Ev te σ H v) (k : ∀ H1, Ex H H1 → tz D σ H1) : tSeq (tDrop te) tz D σ H := s_drop (D := { D with nx := tz D }) h k
/-- a, b = a pair that stands -/
theorem q_unp {r : Addr} {a b : V} {j1 j2 : Nat} (h : Ev te σ H (.ref r)) (hr : H r = some (.tup [a, b])) (k : ∀ H1, Ex H H1 → tz D ((σ.set j1 (some a)).set j2 (some b)) H1) : tSeq (tAsg te (gPair K j1 j2)) tz D σ H :=
  h H (Ex.refl H) _ fun H1 e => ⟨r, [a, b], rfl, st_of (e _ _ hr), rfl, a, [b], rfl, b, [], rfl, rfl, k H1 e⟩
/-- for i, x in enumerate(a tuple) -/
theorem s_forET {tp : TA} {a : Addr} {xs : List V} {j1 j2 : Nat} (h : EvA tp σ H [.ref a]) (hx : SqT K H a xs)
    (Pv : Nat → L2.St → Hp → Prop) (h0 : ∀ H1, Ex H H1 → Pv 0 σ H1) (hG : ∀ i σ' H', Pv i σ' H' → SqT K H' a xs)
    (hs : ∀ i x σ' H' H2, xs[i]? = some x → Pv i σ' H' → Ex H' H2 → tu { D with nx := Pv (i + 1), ct := Pv (i + 1), bk := D.nx } ((σ'.set j1 (some (.int (i : Int)))).set j2 (some x)) H2)
    (hd : ∀ σ' H', Pv xs.length σ' H' → D.nx σ' H') : tFor (iEnumT K tp) (gPair K j1 j2) tu D σ H := by
  refine h H (Ex.refl H) _ fun H1 e1 => ⟨a, xs, rfl, ex_t e1 hx, for_it (walk_eT (k := 0) (xs := xs)) Pv (h0 H1 e1) (fun i σ' H' _ p => hG i σ' H' p) ?_ hd⟩
  intro i v σ' H3 H4 _ p y
  obtain ⟨T, x, z, rfl, hT, rfl, e3, e4⟩ := y
  cases e3
  have g := hs i z σ' H3 (L2.upd H3 T (.tup [.int (0 + (i : Int)), z])) e4 p (Ex.new hT)
  have e0 : (0 : Int) + (i : Int) = (i : Int) := Int.zero_add _
  refine ⟨T, [.int (0 + (i : Int)), z], rfl, st_of upd_same, rfl, _, _, rfl, _, _, rfl, rfl, ?_⟩
  generalize L2.upd H3 T (.tup [.int (0 + (i : Int)), z]) = HX at g ⊢
  show tu _ ((σ'.set j1 (some (.int (0 + (i : Int))))).set j2 (some z)) HX
  rw [e0]
  exact g
/-- for p, c in rows (a tuple of pairs) -/
theorem q_forRows {a : Addr} {xs : List V} {rs : Rw} {j1 j2 : Nat} (h : Ev tl σ H (.ref a)) (hx : SqT K H a xs) (R : RowsAt H xs rs)
    (Pv : Nat → L2.St → Hp → Prop) (h0 : ∀ H1, Ex H H1 → Pv 0 σ H1) (hG : ∀ i σ' H', Pv i σ' H' → SqT K H' a xs ∧ RowsAt H' xs rs)
    (hs : ∀ i σ' H', i < rs.length → Pv i σ' H' → tu { D with nx := Pv (i + 1), ct := Pv (i + 1), bk := tz D } ((σ'.set j1 (some (.int ((rowAt rs i).1 : Int)))).set j2 (some (tx [(rowAt rs i).2]))) H')
    (hd : ∀ σ' H', Pv rs.length σ' H' → tz D σ' H') : tSeq (tFor (iTup K tl) (gPair K j1 j2) tu) tz D σ H := by
  refine q_forT h hx Pv h0 (fun i σ' H' _ p => (hG i σ' H' p).1) ?_ (by rw [R.len]; exact hd)
  intro i x σ' H' hi p
  obtain ⟨hlt, r, rfl, hr⟩ := (hG i σ' H' p).2.get hi
  exact ⟨r, _, rfl, st_of hr, rfl, _, _, rfl, _, _, rfl, rfl, hs i σ' H' hlt p⟩
/-! ### dicts -/
theorem et_din {a : Addr} {y : V} {o : Option V} (hy : Ev ty σ H y) (hd : Ev td σ H (.ref a)) (hg : ∀ H1, Ex H H1 → DGet H1 a y o) : EvT (tB (tDIn ty td)) σ H o.isSome := fun H1 e Q q =>
  hy H1 e _ fun H2 e2 => hd H2 (e.trans e2) _ fun H3 e3 => ⟨a, o, rfl, hg H3 ((e.trans e2).trans e3), o.isSome, rfl, q H3 (e2.trans e3)⟩
theorem ev_dget {a : Addr} {y v : V} (hd : Ev td σ H (.ref a)) (hy : Ev ty σ H y) (hg : ∀ H1, Ex H H1 → DGet H1 a y (some v)) : Ev (tDGet td ty) σ H v := fun H1 e Q q =>
  hd H1 e _ fun H2 e2 => hy H2 (e.trans e2) _ fun H3 e3 => ⟨a, v, rfl, hg H3 ((e.trans e2).trans e3), q H3 (e2.trans e3)⟩
theorem s_dput {a : Addr} {y v : V} {g : Hp → Hp} (hv : Ev te σ H v) (hd : Ev td σ H (.ref a)) (hy : Ev ty σ H y) (hp : ∀ H1, Ex H H1 → DPut H1 a y v (g H1)) (k : ∀ H1, Ex H H1 → D.nx σ (g H1)) : sDPut td ty te D σ H :=
  hv H (Ex.refl H) _ fun H1 e1 => hd H1 e1 _ fun H2 e2 => hy H2 (e1.trans e2) _ fun H3 e3 => ⟨a, g H3, rfl, hp H3 ((e1.trans e2).trans e3), k H3 ((e1.trans e2).trans e3)⟩
theorem q_dput {a : Addr} {y v : V} {g : Hp → Hp} (hv : Ev te σ H v) (hd : Ev td σ H (.ref a)) (hy : Ev ty σ H y) (hp : ∀ H1, Ex H H1 → DPut H1 a y v (g H1)) (k : ∀ H1, Ex H H1 → tz D σ (g H1)) : tSeq (sDPut td ty te) tz D σ H :=
  s_dput (D := { D with nx := tz D }) hv hd hy hp k
theorem q_newT {i : Nat} (k : ∀ p H1, H p = none → Ex H H1 → H1 p = some (.dT []) → tz D (σ.set i (some (.ref p))) H1) : tSeq (tAsg tDNewT (gName i)) tz D σ H := fun p hp => k p _ hp (Ex.new hp) upd_same
/-! ### list.insert, text.index, join -/
theorem q_ins {l : Addr} {xs : List V} {i : Nat} {v : V} (hl : H l = some (.lst xs)) (ha : Ev ta σ H (.ref l)) (hb : Ev tb σ H (.int (i : Int))) (hc : Ev tc σ H v) (hz : xs.length < 100000) (hi : i ≤ 100000)
    (k : ∀ H1, Ex H H1 → tz D σ (upd H1 l (.lst (xs.take i ++ [v] ++ xs.drop i)))) :
    tSeq (tDrop (tBM K "list" (fun x vs H Q => ∃ (l : Addr) (xs : List V) (i : Int) (y : V), x = .ref l ∧ vs = [.int i, y] ∧ H l = some (.lst xs) ∧ xs.length < sizeLine ∧ 0 ≤ i ∧ i < 2 ^ 63 ∧
      Q .non (upd H l (.lst (xs.take i.toNat ++ [y] ++ xs.drop i.toNat)))) ta (tCons tb (tCons tc tNil)))) tz D σ H :=
  ha H (Ex.refl H) _ fun H1 e1 => ⟨Or.inl ⟨rfl, xs, sq_of (e1 l _ hl)⟩, hb H1 e1 _ fun H2 e2 => hc H2 (e1.trans e2) _ fun H3 e3 =>
    ⟨l, xs, (i : Int), v, rfl, rfl, ((e1.trans e2).trans e3) l _ hl, sz_lt hz, by omega, by omega, by rw [Int.toNat_natCast]; exact k H3 ((e1.trans e2).trans e3)⟩⟩
theorem ev_sidx {l : List Nat} {c i : Nat} (nd : l.Nodup) (hi : l[i]? = some c) (ha : Ev ta σ H (tx l)) (hb : Ev tb σ H (tx [c])) : Ev (tBM K "str" (fun x xs H Q => ∃ a b i rest, x = .str a ∧ xs = [.str b] ∧ Builtin.Str.occurrences a b 0 a.length 1 = i :: rest ∧ Q (.int (i : Nat)) H) ta (tCons tb tNil)) σ H (.int (i : Int)) :=
  ev_bm ha (fun _ _ => rfl) (ea_cons hb ea_nil) fun H1 _ Q q => by
    obtain ⟨rest, e⟩ := index_one nd hi
    exact ⟨_, _, i, rest, rfl, rfl, e, q H1 (Ex.refl H1)⟩
theorem joinL_nil : ∀ ps : List (List Nat), TL.joinL [] ps = ps.flatten
  | [] => rfl
  | [p] => by
    show p = [p].flatten
    simp
  | p :: q :: r => by
    show p ++ ([] ++ TL.joinL [] (q :: r)) = (p :: q :: r).flatten
    rw [joinL_nil (q :: r)]
    simp
theorem join_flat (ps : List (List Nat)) : Txt.join (SX.S []) (ps.map SX.S) = SX.S ps.flatten := by
  rw [SX.join_S, joinL_nil]
theorem map_tx (ps : List (List Nat)) : ps.map tx = (ps.map SX.S).map V.str := by
  rw [List.map_map]
  rfl
theorem sum_lens : ∀ ps : List (List Nat), ((ps.map SX.S).map (·.length)).sum = ps.flatten.length
  | [] => rfl
  | p :: r => by
    rw [List.map_cons, List.map_cons, List.sum_cons, sum_lens r, SX.S_len, List.flatten_cons, List.length_append]
abbrev rJoin (K : PySem.W.Frag) : V → List V → Hp → VK → Prop := fun x xs H Q => ∃ a p, ∃ ys : List Str, x = .str a ∧ xs = [.ref p] ∧ (SqL K H p (ys.map V.str) ∨ SqT K H p (ys.map V.str)) ∧
  (ys.map (·.length)).sum + ys.length * a.length ≤ 16777216 ∧ Q (.str (Txt.join a ys)) H
theorem join_ok {p : Addr} {ps : List (List Nat)} (hp : SqL K H p (ps.map tx) ∨ SqT K H p (ps.map tx)) (hz : ps.flatten.length ≤ 100000) {Q : VK} (q : Q (tx ps.flatten) H) : rJoin K (tx []) [.ref p] H Q := by
  refine ⟨SX.S [], p, ps.map SX.S, rfl, rfl, by rw [← map_tx]; exact hp, ?_, ?_⟩
  · rw [sum_lens, SX.S_len]
    show _ + _ * 0 ≤ _
    omega
  · rw [join_flat]
    exact q
theorem ev_join {p : Addr} {ps : List (List Nat)} (ha : Ev ta σ H (tx [])) (hb : Ev tb σ H (.ref p)) (hp : SqL K H p (ps.map tx) ∨ SqT K H p (ps.map tx)) (hz : ps.flatten.length ≤ 100000) : Ev (tM1 (rJoin K) ta tb) σ H (tx ps.flatten) := fun H1 e Q q =>
  ha H1 e _ fun H2 e2 => ⟨⟨_, rfl⟩, hb H2 (e.trans e2) _ fun H3 e3 => join_ok (hp.elim (fun h => .inl (ex_l ((e.trans e2).trans e3) h)) (fun h => .inr (ex_t ((e.trans e2).trans e3) h))) hz (q H3 (e2.trans e3))⟩
theorem ev_joinL {ps : List (List Nat)} (ha : Ev ta σ H (tx [])) (hb : EvL tb σ H (ps.map tx)) (hz : ps.flatten.length ≤ 100000) : Ev (tM1 (rJoin K) ta tb) σ H (tx ps.flatten) := fun H1 e Q q =>
  ha H1 e _ fun H2 e2 => ⟨⟨_, rfl⟩, hb H2 (e.trans e2) _ fun p H3 _ e3 h3 => join_ok (.inl (sq_of h3)) hz (q H3 (e2.trans e3))⟩
/-! ### fields -/
theorem ev_fld {p C dx : Addr} {fs : List (Str × V)} {f : Str} {v : V} (h : Ev te σ H (.ref p)) (hp : H p = some (.ins C dx fs)) (c : Cls K C) (n : NoAttr K C f) (hl : fs.lookup f = some v) : Ev (tFld K te f) σ H v := fun H1 e Q q =>
  h H1 e _ fun H2 e2 => ⟨p, C, dx, fs, v, rfl, (e.trans e2) _ _ hp, c, n, hl, q H2 e2⟩
theorem q_fld {p C dx : Addr} {fs : List (Str × V)} {f : Str} {v : V} (hv : Ev te σ H v) (ho : Ev ta σ H (.ref p)) (hp : H p = some (.ins C dx fs)) (c : Cls K C) (n : NoAttr K C f) (hz : fs.length < 1000)
    (k : ∀ H1, Ex H H1 → tz D σ (upd H1 p (.ins C dx (putF f v fs)))) : tSeq (sFld K ta te f) tz D σ H :=
  hv H (Ex.refl H) _ fun H1 e1 => ho H1 e1 _ fun H2 e2 => ⟨p, C, dx, fs, rfl, (e1.trans e2) _ _ hp, c, n, hz, k H2 (e1.trans e2)⟩
theorem q_fldU {p C dx : Addr} {fs : List (Str × V)} {f : Str} {xs : List V} (hv : EvU te σ H xs) (ho : ∀ H1, Ex H H1 → Ev ta σ H1 (.ref p)) (hp : H p = some (.ins C dx fs)) (c : Cls K C) (n : NoAttr K C f) (hz : fs.length < 1000)
    (k : ∀ r H1, H r = none → Ex H H1 → H1 r = some (.tup xs) → tz D σ (upd H1 p (.ins C dx (putF f (.ref r) fs)))) : tSeq (sFld K ta te f) tz D σ H :=
  hv H (Ex.refl H) _ fun r H1 hr e1 h1 => ho H1 e1 H1 (Ex.refl H1) _ fun H2 e2 => ⟨p, C, dx, fs, rfl, (e1.trans e2) _ _ hp, c, n, hz, k r H2 hr (e1.trans e2) (e2 _ _ h1)⟩
theorem s_fldU {p C dx : Addr} {fs : List (Str × V)} {f : Str} {xs : List V} (hv : EvU te σ H xs) (ho : ∀ H1, Ex H H1 → Ev ta σ H1 (.ref p)) (hp : H p = some (.ins C dx fs)) (c : Cls K C) (n : NoAttr K C f) (hz : fs.length < 1000)
    (k : ∀ r H1, H r = none → Ex H H1 → H1 r = some (.tup xs) → D.nx σ (upd H1 p (.ins C dx (putF f (.ref r) fs)))) : sFld K ta te f D σ H :=
  hv H (Ex.refl H) _ fun r H1 hr e1 h1 => ho H1 e1 H1 (Ex.refl H1) _ fun H2 e2 => ⟨p, C, dx, fs, rfl, (e1.trans e2) _ _ hp, c, n, hz, k r H2 hr (e1.trans e2) (e2 _ _ h1)⟩
/-- a call that gives a new tuple -/
def SpU (sp : Sp) (vs : List V) (H : Hp) (xs : List V) : Prop := ∀ H1, Ex H H1 → ∀ Q : VK, (∀ p H2, H1 p = none → Ex H1 H2 → H2 p = some (.tup xs) → Q (.ref p) H2) → ∀ E : XK, sp vs H1 Q E
theorem eu_call {sp : Sp} {dvs vs xs : List V} {E : XK} {tp : TA} (h : EvA tp σ H vs) (hs : SpU sp (vs ++ dvs) H xs) : EvU (tCall sp dvs E tp) σ H xs := fun H1 e Q q =>
  h H1 e _ fun H2 e2 => hs H2 (e.trans e2) Q (fun p H3 hp e3 h3 => q p H3 (fresh_back e2 hp) (e2.trans e3) h3) E
end
end Ver
namespace Ver
open PySem PySem.Spec PyProof.Rows L2 Evl
/-! ### d.setdefault(k, x), tuple keys -/
section
variable {X : Cx}
def rSetT : V → List V → Hp → VK → Prop := fun x xs H Q => ∃ (a : Addr) (kvs : List (List L2.Key × V)) (k : List L2.Key) (b : Addr) (d : V), x = .ref a ∧ xs = [.ref b, d] ∧ H a = some (.dT kvs) ∧ H b = some (.tup (k.map kV)) ∧ kvs.length < sizeLine ∧
  (∀ v, valV kvs k = some v → Q v H) ∧ (valV kvs k = none → Q d (upd H a (.dT (putK kvs k d))))
theorem mt_setT (hu : X.A.units + 1 < cLine) : MtR X "dict.setdefault" rSetT := by
  intro pins s σ H x xs v us Q I rx rxs h
  obtain ⟨a, kvs, k, b, d, rfl, rfl, ha, hb, hl, q1, q2⟩ := h
  cases rx
  obtain ⟨u1, u2, rfl, r1, r2⟩ := vals2 rxs
  cases r1
  obtain ⟨z, hd, xs', rel, dd⟩ := dt_of I.hok ha
  have hz : xs'.length ≤ sizeLine := by rw [← Paired.length rel]; exact z
  refine call_setdefault_heap (hsz := hz) (k := k) (tupleKind_room_in1 hu) (key_of I.hok hb) hd dd (fun p hp => ?_) (fun hn h' dd' hs => ?_)
  · have r := rel.val k
    rw [hp] at r
    obtain ⟨v0, ev, rv⟩ : ∃ v0, valV kvs k = some v0 ∧ RelV v0 p.2 := by
      cases ev : valV kvs k with
      | none =>
        rw [ev] at r
        exact (show False from r).elim
      | some v0 =>
        rw [ev] at r
        exact ⟨v0, rfl, r⟩
    exact ⟨v0, H, I.tok _, rv, q1 v0 ev⟩
  · have r := rel.val k
    rw [hn] at r
    have e : valV kvs k = none := by
      cases ev : valV kvs k with
      | none => rfl
      | some v0 =>
        rw [ev] at r
        exact (show False from r).elim
    obtain ⟨q, es, ep, hq, h2, h3, h4, _, h5⟩ := dd'
    have hl2 : (putK kvs k d).length ≤ sizeLine := by
      have := length_putK kvs k d
      omega
    refine ⟨d, _, d_write (t' := s.toks + (tupleKind (mixKind X.prog X.w)).draws k) (ob := .dT (putK kvs k d)) I (by rw [ha]; exact True.intro) hs ⟨q, hq⟩ ⟨hl2, hd, _, (rel.put k hb r2).keeps fun c ys ec => ?_, q, es, ep, hq, h2, h3, h4, h5⟩, r2, q2 e⟩
    rw [upd_ne (ne_of ec ha (fun z => nomatch z))]
    exact ec
end
def rLenK : List V → Hp → VK → Prop := fun xs H Q => ∃ (p : Addr) (kvs : List (Key × V)), xs = [.ref p] ∧ H p = some (.dK kvs) ∧ Q (.int ((kvs.length : Nat) : Int)) H
theorem call_len_dK {X : Cx} : CallR X (.builtin "len") rLenK := by
  intro pins s σ H xs us Q I r h
  obtain ⟨p, kvs, rfl, hp, q⟩ := h
  obtain ⟨u, rfl, rx⟩ := vals1 r
  obtain rfl : u = .ref p := rx
  exact d_len I (.inl hp) fun t s' I' => ⟨.int ((kvs.length : Nat) : Int), H, I', ⟨_, rfl⟩, q⟩
theorem q_newK {σ : L2.St} {H : Hp} {D : Ends} {tz : TS} {i : Nat} (k : ∀ p H1, H p = none → Ex H H1 → H1 p = some (.dK []) → tz D (σ.set i (some (.ref p))) H1) : tSeq (tAsg tDNewK (gName i)) tz D σ H := fun p hp => k p _ hp (Ex.new hp) upd_same
/-! ### zip of a text and a list -/
def Izsl (K : PySem.W.Frag) (x : Str) (b : Addr) (ys : List V) : It where
  go := fun i H => i < x.cps.size ∧ i < ys.length ∧ SqL K H b ys
  yld := fun i H v H' => ∃ T c y, v = .ref T ∧ H T = none ∧ H' = upd H T (.tup [.str ⟨#[c]⟩, y]) ∧ x.cps[i]? = some c ∧ ys[i]? = some y
  stop := fun i H => i ≤ x.cps.size ∧ i ≤ ys.length ∧ (i = x.cps.size ∨ i = ys.length) ∧ SqL K H b ys
section
variable {P : Program} {w : World} {K : PySem.W.Frag} {elts : List Expr} {kk : Nat} {tpos : Pos}
theorem turnZsl (x : Str) (ys : List V) (t : Tok) (z TI TO i1 i2 b : Addr) (S : ZipSep2 z TI TO i1 i2 [i1] [i2, b]) (hne : b ≠ i2) : Turn P w K (.Tuple elts kk tpos) (Izsl K x b ys) [z, TI, TO, i1, i2] z
    (fun i h => IsZip h z TI TO .none ∧ IsTupOf2 h TI (.ref i1) (.ref i2) ∧ (∃ a1 a2, IsTupOf2 h TO a1 a2) ∧ h.IsStrIter i1 (strIterType x) x t i ∧ h.IsListIter i2 b i) where
  mem := List.mem_cons_self ..
  obj := fun i h st c hc => by
    obtain ⟨hz, hTI, ⟨a1, a2, hTO⟩, ⟨o1, e1, _, d1⟩, ⟨o2, e2, _, d2⟩⟩ := st
    rcases five_mem hc with q | q | q | q | q
    · rw [q]; exact ⟨_, hz, fun v q => nomatch q⟩
    · rw [q]; exact ⟨_, hTI, fun v q => nomatch q⟩
    · rw [q]; exact ⟨_, hTO, fun v q => nomatch q⟩
    · rw [q]; exact ⟨o1, e1, fun v q => by rw [d1] at q; cases q⟩
    · rw [q]; exact ⟨o2, e2, fun v q => by rw [d2] at q; cases q⟩
  keep := fun i h h' st k => by
    obtain ⟨hz, hTI, ⟨a1, a2, hTO⟩, h1, h2⟩ := st
    exact ⟨k z (by simp) _ hz, k TI (by simp) _ hTI, ⟨a1, a2, k TO (by simp) _ hTO⟩, si_at h1 fun o q => k i1 (by simp) o q, h2.at fun o q => k i2 (by simp) o q⟩
  item := by
    intro X hP hw hK hc i pins s σ H E I hf st hg
    subst hP hw hK
    obtain ⟨hz, hTI, ⟨a1, a2, hTO⟩, h1, h2⟩ := st
    obtain ⟨its, rv, p, _⟩ := I.list hg.2.2
    have D1 := Draws.text (prog := X.prog) (w := X.w) (A := X.A.in1) (I.ok.hd hc) i1 x t
    have D2 := Draws.list (prog := X.prog) (w := X.w) (A := X.A.in1) (I.ok.hd hc) i2 b hne its.toArray
    have hzl : z < s.heap.objs.size := Heap.lt_size hz
    have l1 : i1 < s.heap.objs.size := by
      obtain ⟨o, e, _⟩ := h1
      exact Heap.lt_size e
    have l2 : i2 < s.heap.objs.size := by
      obtain ⟨o, e, _⟩ := h2
      exact Heap.lt_size e
    have hlen := rv.length
    refine wpAny_pyNext_zipD2_item S D1 D2 hz hTI hTO h1 ⟨h2, p.isList⟩ hg.1 (by rw [List.size_toArray, ← hlen]; exact hg.2.1) fun y1 y2 h' tk ⟨c, u1, hc1, ev1⟩ hy2 b1 b2 s1 s2 hT hsz hk => ?_
    subst ev1
    have hy3 : its[i]? = some y2 := by simpa using hy2
    have hyi : ys[i]? = some (ys[i]'hg.2.1) := List.getElem?_eq_getElem hg.2.1
    obtain ⟨u2, hu2, ru2⟩ := rv.get hyi
    obtain rfl : u2 = y2 := Option.some.inj (hu2.symm.trans hy3)
    refine ⟨_, rfl, wpAny_letOwnedTupleGo_zip (s := { s with heap := h', toks := tk }) b1 fun h'' z'' sb => ?_⟩
    have hT2 : h''.get? s.heap.objs.size = some { cls := .type "tuple", data := .seq #[.str ⟨#[c]⟩ u1, u2] } := (sb.2 _ (Nat.ne_of_gt hzl)).trans hT
    have new : ObjOk X.prog X.w (upd H s.heap.objs.size (.tup [.str ⟨#[c]⟩, ys[i]'hg.2.1])) h'' s.heap.objs.size (.tup [.str ⟨#[c]⟩, ys[i]'hg.2.1]) :=
      ⟨(by show 2 ≤ sizeLine; decide), [.str ⟨#[c]⟩ u1, u2], .cons ⟨_, rfl⟩ (.cons ru2 .nil), ⟨_, hT2, rfl, _, rfl⟩⟩
    have I1 : Inv X pins σ (upd H s.heap.objs.size (.tup [.str ⟨#[c]⟩, ys[i]'hg.2.1])) { s with heap := h'', toks := tk } := by
      refine I.turnedNew (ch := [z, TI, TO, i1, i2]) (fun b ob nb q => ?_) hf (Nat.le_refl _) new
      exact (sb.2 b (fun q' => nb (by simp [q']))).trans (hk b ob (fun q' => nb (by simp [q'])) (fun q' => nb (by simp [q'])) (fun q' => nb (by simp [q'])) (fun q' => nb (by simp [q'])) q)
    refine ⟨.ref s.heap.objs.size, _, I1, rfl, ⟨_, c, _, rfl, I.hok.fresh (Nat.le_refl _), rfl, hc1, hyi⟩, ⟨z'', ?_, ⟨.str ⟨#[c]⟩ u1, u2, ?_⟩, ?_, ?_⟩, fun b hb => ?_⟩
    · exact (sb.2 _ S.TIz).trans (hk _ _ S.TIz S.TITO S.TIi1 S.TIi2 hTI)
    · exact (sb.2 _ S.TOz).trans b2
    · exact si_at s1 fun o q => (sb.2 _ S.zi1.symm).trans q
    · exact s2.1.at fun o q => (sb.2 _ S.zi2.symm).trans q
    · have hlt : b < s.heap.objs.size := by
        rcases five_mem hb with q | q | q | q | q
        · rw [q]; exact hzl
        · rw [q]; exact Heap.lt_size hTI
        · rw [q]; exact Heap.lt_size hTO
        · rw [q]; exact l1
        · rw [q]; exact l2
      rw [upd_ne (Nat.ne_of_lt hlt)]
      exact (hf b hb).1
  done := by
    intro X hP hw hK hc i pins s σ H E I hf st hg
    subst hP hw hK
    obtain ⟨hz, hTI, ⟨a1, a2, hTO⟩, h1, h2⟩ := st
    obtain ⟨its, rv, p, _⟩ := I.list hg.2.2.2
    have hlen := rv.length
    have D1 := Draws.text (prog := X.prog) (w := X.w) (A := X.A.in1) (I.ok.hd hc) i1 x t
    have D2 := Draws.list (prog := X.prog) (w := X.w) (A := X.A.in1) (I.ok.hd hc) i2 b hne its.toArray
    exact wpAny_pyNext_zipD2_end S D1 D2 hz hTI hTO h1 ⟨h2, p.isList⟩ hg.1 (by rw [List.size_toArray, ← hlen]; exact hg.2.1) (by have h9 := hg.2.2.1; rw [hlen] at h9; exact h9) fun h' tk hk => ⟨rfl, I.turnedL (t' := tk) (ch := [z, TI, TO, i1, i2]) (fun c o hb q =>
      hk c o (fun q' => hb (by simp [q'])) (fun q' => hb (by simp [q'])) (fun q' => hb (by simp [q'])) (fun q' => hb (by simp [q'])) q) hf⟩
  self := fun A i s Q E st h => wpAny_pyIter_zip st.1 h
theorem sep_nl (n b : Nat) (h : b < n) : ZipSep2 (n + 4) (n + 2) (n + 3) n (n + 1) [n] [n + 1, b] := by
  have two : ∀ c : Addr, c ∈ [(show Addr from n + 1), (show Addr from b)] → c = (show Addr from n + 1) ∨ c = (show Addr from b) := fun c h => by simpa using h
  have no : ∀ m : Nat, m ≠ n + 1 → m ≠ b → (show Addr from m) ∉ [(show Addr from n + 1), (show Addr from b)] := fun m h1 h2 h => (two _ h).elim h1 h2
  exact ⟨ne_nat (by omega), ne_nat (by omega), ne_nat (by omega), ne_nat (by omega), List.mem_singleton.mpr rfl, fun h => absurd (List.mem_singleton.mp h) (ne_nat (by omega)), fun h => absurd (List.mem_singleton.mp h) (ne_nat (by omega)),
    ne_nat (by omega), List.mem_cons_self .., no _ (by omega) (by omega), no _ (by omega) (by omega), no _ (by omega) (by omega), fun h => absurd (List.mem_singleton.mp h) (ne_nat (by omega))⟩
def iZipSL (K : PySem.W.Frag) (ta : TA) : TI := fun σ H R => ta σ H fun vs H1 => ∃ x b ys, vs = [.str x, .ref b] ∧ SqL K H1 b ys ∧ R (Izsl K x b ys) H1
theorem pi_zipSL {X : Cx} {e e2 : Expr} {ta : TA} {p pos tpos : Pos} {elts : List Expr} {kk : Nat} (hg : Gl X "zip") (hm : X.mg "zip" = none) (ha : PA X [e, e2] ta)
    (hs : starEach [e, e2] X.env = (false, eval e X.env) :: starEach [e2] X.env := by rfl) (hpl : (backTo pos (starEach [e2] X.env)).any (·.1) = false := by rfl) :
    PI X (.Tuple elts kk tpos) (.Call (.Name "zip" p) [e, e2] [] pos) (iZipSL X.K ta) := by
  refine ⟨fun pins s σ H R I h => ?_⟩
  refine Call_ (ld_blt I hg hm PyProof.Rows.boot_zip (PyProof.Rows.callWith_type1 (thn (ha.run pos pins s σ H _ I h) fun us s1 ⟨vs, H1, I1, r1, q1⟩ => ?_) hs hpl))
  obtain ⟨x, b, ys, ex, hb, q⟩ := q1
  subst ex
  cases r1 with
  | cons r rr =>
    cases rr with
    | cons r' rr =>
      cases rr
      obtain ⟨t, rfl⟩ := r
      cases r'
      obtain ⟨its, rv, p1, _⟩ := I1.list hb
      refine zip_begins2 (begins_text x t) (begins_list b its.toArray) trivial p1.isList fun h' hz hTI hTO g1 g2 hsz hk => wpAny_pyIter_zip hz ?_
      have I2 : Inv X pins σ H1 { s1 with heap := h' } := I1.kept (t' := s1.toks) hk
      have S := sep_nl s1.heap.objs.size b p1.lt
      refine ⟨s1.heap.objs.size + 4, [s1.heap.objs.size + 4, s1.heap.objs.size + 2, s1.heap.objs.size + 3, s1.heap.objs.size, s1.heap.objs.size + 1], _, _, H1, rfl, I2, turnZsl x ys t _ _ _ _ _ b S (fun e => absurd (show (show Nat from b) = s1.heap.objs.size + 1 from e) (by have h9 : (show Nat from b) < s1.heap.objs.size := p1.lt; omega)), ⟨hz, hTI, ⟨_, _, hTO⟩, ⟨_, g1, rfl, rfl⟩, ⟨_, g2, rfl, rfl⟩⟩, fun c hcm => ?_, q⟩
      have hle : s1.heap.objs.size ≤ c := by
        rcases five_mem hcm with z | z | z | z | z
        · rw [z]; exact Nat.le_add_right _ _
        · rw [z]; exact Nat.le_add_right _ _
        · rw [z]; exact Nat.le_add_right _ _
        · rw [z]; exact Nat.le_refl _
        · rw [z]; exact Nat.le_add_right _ _
      exact I1.fpOk hle (I1.hok.fresh hle)
theorem walk_zsl {x : Str} {b : Addr} {ys : List V} : Walk (Izsl K x b ys) (min x.cps.size ys.length) (fun H => SqL K H b ys) (YPair (fun i => (x.cps.toList[i]?).map fun c => V.str ⟨#[c]⟩) (fun i => ys[i]?)) := by
  refine ⟨fun i _ hi q => ?_, fun _ q => ?_, fun i H v H' hi q y' => ?_⟩
  · exact ⟨by omega, by omega, q⟩
  · exact ⟨by omega, by omega, by omega, q⟩
  obtain ⟨T, c, d, h1, h2, h3, h4, h5⟩ := y'
  refine ⟨T, .str ⟨#[c]⟩, d, h1, h2, h3, ?_, h5⟩
  show Option.map _ (x.cps.toList[i]?) = _
  rw [Array.getElem?_toList, h4]
  rfl
/-! ### lists of tuples -/
structure TpAt (H : Hp) (xs : List V) (ps : List (List V)) : Prop where
  len : xs.length = ps.length
  row : ∀ (i : Nat) (p : List V), ps[i]? = some p → ∃ r, xs[i]? = some (V.ref r) ∧ H r = some (.tup p)
theorem TpAt.mono {H H' : Hp} {xs : List V} {ps : List (List V)} (h : TpAt H xs ps) (e : Ex H H') : TpAt H' xs ps := ⟨h.len, fun i p q => by
  obtain ⟨r, a, b⟩ := h.row i p q
  exact ⟨r, a, e _ _ b⟩⟩
theorem TpAt.upd {H : Hp} {xs : List V} {ps : List (List V)} {l : Addr} {o u : HO} (h : TpAt H xs ps) (hl : H l = some u) (hu : ∀ ys, u ≠ .tup ys) : TpAt (upd H l o) xs ps := ⟨h.len, fun i p q => by
  obtain ⟨r, a, b⟩ := h.row i p q
  refine ⟨r, a, ?_⟩
  rw [upd_ne]
  · exact b
  · intro z
    rw [z, hl] at b
    exact hu _ (Option.some.inj b)⟩
theorem TpAt.nil {H : Hp} : TpAt H [] [] := ⟨rfl, fun i p q => by simp at q⟩
theorem TpAt.snoc {H : Hp} {xs : List V} {ps : List (List V)} {r : Addr} {p : List V} (h : TpAt H xs ps) (hr : H r = some (.tup p)) : TpAt H (xs ++ [.ref r]) (ps ++ [p]) := by
  refine ⟨by rw [List.length_append, List.length_append, h.len]; rfl, fun i q e => ?_⟩
  by_cases hi : i < ps.length
  · rw [List.getElem?_append_left hi] at e
    obtain ⟨r', a, b⟩ := h.row i q e
    exact ⟨r', by rw [List.getElem?_append_left (by rw [h.len]; exact hi)]; exact a, b⟩
  · have h1 := (List.getElem?_eq_some_iff.mp e).1
    rw [List.length_append] at h1
    have e2 : i = ps.length := by
      simp at h1
      omega
    subst e2
    have e3 : p = q := by simpa using e
    subst e3
    refine ⟨r, ?_, hr⟩
    rw [← h.len]
    simp
/-- a new list of new tuples over zip(a text, a list) -/
theorem run_lcZ {σ : L2.St} {H : Hp} {te : TE} {x : List Nat} {b : Addr} {ys : List V} {tp : TA} {j1 j2 : Nat} {vs : List Nat} {Q : VK} (v : Nat → List V) (h : EvA tp σ H [tx x, .ref b]) (hy : SqL K H b ys) (hl : ys.length = x.length) (hz : x.length ≤ 40000)
    (hw : ∀ a b, wipe (((wipe σ vs).set j1 (some a)).set j2 (some b)) vs = wipe σ vs)
    (he : ∀ (i c : Nat) (y : V) H1, Ex H H1 → x[i]? = some c → ys[i]? = some y → EvU te (((wipe σ vs).set j1 (some (tx [c]))).set j2 (some y)) H1 (v i))
    (k : ∀ l xs H1, H l = none → Ex H H1 → H1 l = some (.lst xs) → TpAt H1 xs ((List.range x.length).map v) → Q (.ref l) H1) :
    tLc (iZipSL K tp) (gTup K 2 (gCons (gName j1) (gCons (gName j2) gNil))) tYes te vs σ H Q := h H (Ex.refl H) _ fun H1 e1 => ⟨SX.S x, b, ys, rfl, ex_l e1 hy, fun Dl hD => by
  have hn : min (SX.S x).cps.size ys.length = x.length := by
    show min x.toArray.size ys.length = _
    rw [List.size_toArray, hl, Nat.min_self]
  have hD0 : H Dl = none := fresh_back e1 hD
  refine lc_it walk_zsl (fun i H' => Ex H H' ∧ ∃ xs, H' Dl = some (.lst xs) ∧ TpAt H' xs ((List.range i).map v)) ⟨e1.trans (Ex.new hD), [], upd_same, .nil⟩ (fun i H' _ p => ex_l p.1 hy) (fun i z H' H2 hi p yp => ?_) (fun H' p => ?_)
  · obtain ⟨T, a, d, rfl, hT, rfl, ha, hd⟩ := yp
    obtain ⟨p1, xs, p2, p3⟩ := p
    have ha2 : (x[i]?).map (fun c => tx [c]) = some a := ha
    have hd2 : ys[i]? = some d := hd
    cases hx : x[i]? with
    | none =>
      rw [hx] at ha2
      cases ha2
    | some c =>
    rw [hx] at ha2
    cases ha2
    have hxl := (List.getElem?_eq_some_iff.mp hx).1
    have e2 : Ex H (L2.upd H' T (.tup [tx [c], d])) := p1.trans (Ex.new hT)
    refine ⟨T, _, rfl, st_of upd_same, rfl, _, _, rfl, _, _, rfl, rfl, hw _ _, ?_⟩
    refine et_yes _ (Ex.refl _) _ fun H3 e3 => ?_
    rw [if_pos rfl]
    have e3' : Ex H H3 := e2.trans e3
    refine he i c d H3 e3' hx hd2 H3 (Ex.refl _) _ fun r H4 hr e4 h4 => ?_
    have g4 := e4 _ _ (e3 _ _ (Ex.new hT _ _ p2))
    have hlen := p3.len
    rw [List.length_map, List.length_range] at hlen
    refine ⟨xs, g4, sz_lt (by omega), (e3'.trans e4).mut hD0, xs ++ [.ref r], upd_same, ?_⟩
    rw [List.range_succ, List.map_append]
    have hTp := ((p3.mono ((Ex.new hT).trans (e3.trans e4))).snoc h4)
    exact hTp.upd g4 (fun ys => by intro z; cases z)
  · rw [hn] at p
    obtain ⟨p1, xs, p2, p3⟩ := p
    exact k Dl xs H' hD0 p1 p2 p3⟩
end
/-! ### text.find(text, start) -/
section
theorem take_getD {l : List Nat} {i : Nat} (h : i < l.length) : l[i]? = some (l.getD i 0) := by
  rw [List.getD_eq_getElem?_getD, List.getElem?_eq_getElem h]
  rfl
end
end Ver
namespace Ver
open PySem PySem.Spec PyProof.Rows L2 Evl
/-! ### math.isqrt -/
def rIsq : List V → Hp → VK → Prop := fun vs H Q => ∃ a : Int, vs = [.int a] ∧ 0 ≤ a ∧ a < 2 ^ 200 ∧ ∀ r : Nat, r * r ≤ a.toNat → a.toNat < (r + 1) * (r + 1) → Q (.int (r : Int)) H
theorem Vals.int1 {a : Int} {us : List Value} (r : Vals [.int a] us) : ∃ t, us = [.int a t] := by
  cases r with
  | cons h t =>
    cases t
    obtain ⟨t, rfl⟩ := h
    exact ⟨t, rfl⟩
theorem cr_isqrt {X : Cx} : CallR X (.builtin "math.isqrt") rIsq := by
  intro pins s σ H vs us Q I r h
  obtain ⟨a, rfl, h0, h1, q⟩ := h
  obtain ⟨t, rfl⟩ := Vals.int1 r
  have hl : a.toNat.log2 ≤ 199 := PySem.W.mg_log (by
    have : (a.toNat : Int) < 2 ^ 200 := by omega
    exact_mod_cast this)
  obtain ⟨k1, k2⟩ := PySem.Float64.isqrt_spec a.toNat
  exact PySem.call_function_meets PySem.W.MGF.kind_isqrt PySem.W.MGF.plain_isqrt PySem.W.MGF.entry_isqrt (PySem.W.MGF.args_isqrt _) (PySem.W.mg_run_isqrt a t (by omega) (by omega) (by omega)).meets ⟨.int _, H, I.tok _, ⟨_, rfl⟩, q _ k1 k2⟩
theorem q_asgX {σ : L2.St} {H : Hp} {D : Ends} {tz : TS} {te : TE} {i : Nat} (h : te σ H fun x H1 => tz D (σ.set i (some x)) H1) : tSeq (tAsg te (gName i)) tz D σ H := h
/-- a list made over enumerate(a list) -/
theorem el_lcEn {σ : L2.St} {H : Hp} {K : PySem.W.Frag} {te : TE} {a : Addr} {xs : List V} {tp : TA} {j1 j2 : Nat} {vs : List Nat} (v : Nat → V) (h : EvA tp σ H [.ref a]) (hx : SqL K H a xs) (hz : xs.length ≤ 40000)
    (hw : ∀ a b, wipe (((wipe σ vs).set j1 (some a)).set j2 (some b)) vs = wipe σ vs)
    (he : ∀ (i : Nat) (x : V) H1, Ex H H1 → xs[i]? = some x → Ev te (((wipe σ vs).set j1 (some (.int (i : Int)))).set j2 (some x)) H1 (v i)) :
    EvL (tLc (iEnum K tp) (gTup K 2 (gCons (gName j1) (gCons (gName j2) gNil))) tYes te vs) σ H ((List.range xs.length).map v) := fun H0 e Q q => h H0 e _ fun H1 e1 => ⟨a, xs, rfl, ex_l (e.trans e1) hx, fun Dl hD => by
  refine lc_it (walk_enum (xs := xs)) (Cw H1 (fun _ => true) v Dl) ⟨hD, Ex.new hD, upd_same⟩ (fun i H' _ p => ex_l (((e.trans e1).trans p.2.1)) hx) (fun i z H' H2 hi p yp => ?_) (fun H' p => ?_)
  · obtain ⟨T, c, d, rfl, hT, rfl, ha, hb⟩ := yp
    obtain rfl := Option.some.inj ha
    have hb2 : xs[i]? = some d := hb
    have hxl := (List.getElem?_eq_some_iff.mp hb2).1
    have p2 : Cw H1 (fun _ => true) v Dl i (L2.upd H' T (.tup [.int (i : Int), d])) := ⟨p.1, p.2.1.trans (Ex.new hT), Ex.new hT _ _ p.2.2⟩
    exact ⟨T, _, rfl, st_of upd_same, rfl, _, _, rfl, _, _, rfl, rfl, hw _ _, cw_turn p2 (by omega) et_yes fun _ => he i d H1 (e.trans e1) hb2⟩
  · have e9 := given_all xs.length v
    have p3 := p.2.2
    rw [e9] at p3
    exact q Dl H' (fresh_back e1 p.1) (e1.trans p.2.1) p3⟩
theorem root_ex {a : Int} (h : 0 ≤ a) : ∃ r : Nat, (r : Int) * r ≤ a ∧ a < ((r : Int) + 1) * (r + 1) := by
  obtain ⟨k1, k2⟩ := PySem.Float64.isqrt_spec a.toNat
  refine ⟨PySem.Float64.isqrt a.toNat, ?_, ?_⟩
  · have : ((PySem.Float64.isqrt a.toNat * PySem.Float64.isqrt a.toNat : Nat) : Int) ≤ a := by omega
    rw [Int.natCast_mul] at this
    exact this
  · have : a < (((PySem.Float64.isqrt a.toNat + 1) * (PySem.Float64.isqrt a.toNat + 1) : Nat) : Int) := by omega
    rw [Int.natCast_mul, Int.natCast_add] at this
    exact this
/-- a def's call with a value and a new list -/
theorem ev_cVL {σ : L2.St} {H : Hp} {sp : Sp} {E : XK} {t1 tl : TE} {x1 y : V} {xs : List V} (h1 : Ev t1 σ H x1) (hl : EvL tl σ H xs) (hs : ∀ p H1, Ex H H1 → H1 p = some (.lst xs) → SpV sp ([x1, .ref p] ++ []) H1 y) : Ev (tCall sp [] E (tCons t1 (tCons tl tNil))) σ H y := fun H0 e Q q =>
  h1 H0 e _ fun H1 e1 => hl H1 (e.trans e1) _ fun p H2 hp e2 g2 => hs p H2 ((e.trans e1).trans e2) g2 H2 (Ex.refl H2) Q (fun H3 e3 => q H3 ((e1.trans e2).trans e3)) _
theorem sum_cast {α : Type} (f : α → Nat) : ∀ l : List α, (l.map fun x => ((f x : Nat) : Int)).sum = ((l.map f).sum : Int)
  | [] => rfl
  | a :: l => by
    rw [List.map_cons, List.map_cons, List.sum_cons, List.sum_cons, sum_cast f l, Int.natCast_add]
/-! ### own methods -/
structure AtM (K : PySem.W.Frag) (C : Addr) (m q : Str) (st : Stmt) : Prop where
  ex : ∃ f fd, Fun K m q st f fd ∧ Meth K C m f
def HasM (P : Program) (w : World) (K : PySem.W.Frag) (mg : Str → Option Value) (base : Heap) (C : Addr) (m : Str) (ps : List Str) (k : Nat) (sp : Sp) : Prop :=
  ∃ f fd, FnOk P w K mg base CX0 k f fd ps sp ∧ Binds K fd ps [] ∧ Meth K C m f
section
variable {σ : L2.St} {H : Hp}
theorem ev_isqrt {ta : TE} {a : Int} {Q : V → Prop} (ha : Ev ta σ H (.int a)) (h0 : 0 ≤ a) (h1 : a < 2 ^ 200) (r : Nat) (hr : (r : Int) * r ≤ a) (hr2 : a < ((r : Int) + 1) * (r + 1)) : Ev (tCB rIsq (tCons ta tNil)) σ H (.int (r : Int)) := fun H1 e Q q =>
  ha H1 e _ fun H2 e2 => ⟨a, rfl, h0, h1, fun s k1 k2 => by
    have e1 : s = r := by
      have a1 : s * s < (r + 1) * (r + 1) := by
        have : ((s * s : Nat) : Int) < (((r + 1) * (r + 1) : Nat) : Int) := by
          rw [Int.natCast_mul, Int.natCast_mul, Int.natCast_add]
          have : ((s * s : Nat) : Int) ≤ a := by omega
          rw [Int.natCast_mul] at this
          exact Int.lt_of_le_of_lt this hr2
        omega
      have a2 : r * r < (s + 1) * (s + 1) := by
        have : ((r * r : Nat) : Int) ≤ a := by
          rw [Int.natCast_mul]
          exact hr
        omega
      have b1 : s < r + 1 := Classical.byContradiction fun c => absurd (Nat.mul_le_mul (show r + 1 ≤ s by omega) (show r + 1 ≤ s by omega)) (by omega)
      have b2 : r < s + 1 := Classical.byContradiction fun c => absurd (Nat.mul_le_mul (show s + 1 ≤ r by omega) (show s + 1 ≤ r by omega)) (by omega)
      omega
    rw [e1]
    exact q H2 e2⟩
/-- the call of an own method -/
theorem ev_meth {C a dx : Addr} {fs : List (Str × V)} {m : Str} {sp : Sp} {ta : TE} {t : TA} {vs : List V} {v : V} {E : XK} (ha : Ev ta σ H (.ref a)) (hi : H a = some (.ins C dx fs)) (hl : fs.lookup m = none) (ht : EvA t σ H vs) (h : ∀ H1, Ex H H1 → ∀ Q : VK, (∀ H2, Ex H1 H2 → Q v H2) → sp (.ref a :: (vs ++ [])) H1 Q E) :
    Ev (tMeth C m sp [] E ta t) σ H v := fun H1 e Q q => ha H1 e _ fun H2 e2 => ⟨a, dx, fs, rfl, (e.trans e2) _ _ hi, hl, ht H2 (e.trans e2) _ fun H3 e3 => h H3 ((e.trans e2).trans e3) Q fun H4 e4 => q H4 ((e2.trans e3).trans e4)⟩
end
end Ver
namespace Ver
open PySem PySem.Spec PyProof.Rows L2
/-! ### try: .. except X as n: .. except Y as n: .. -/
def asEnds (i : Nat) (D : Ends) : Ends := { nx := fun σ' H' => D.nx (σ'.set i none) H', rt := D.rt, bk := fun σ' H' => D.bk (σ'.set i none) H', ct := fun σ' H' => D.ct (σ'.set i none) H' }
abbrev Suite := Addr → Value → Option Addr → TS
/-- what the clauses wish of an error of the body, one after the other; slot i is their name's -/
def wMas (K : PySem.W.Frag) (i : Nat) (Wout : WX) (D : Ends) : List (Value × Suite) → WX
  | [] => Wout
  | (c, ts) :: r => fun cls d σ H => ∃ b, PySem.W.exmOne K cls c = some b ∧ (b = true → ∀ a, H a = none → ts a cls d (asEnds i D) (σ.set i (some (.ref a))) H) ∧ (b = false → wMas K i Wout D r cls d σ H)
inductive HdsAs (X : Cx) (n : Str) : List ExceptHandler → List (Value × Suite) → Prop
  | nil : HdsAs X n [] []
  | cons {x : Str} {c : Value} {ts : Suite} {b₀ : Stmt} {suite : List Stmt} {np pos' : Pos} {hds : List ExceptHandler} {l : List (Value × Suite)} (hc : Names X x c)
      (hsu : ∀ (a : Addr) (oe : Obj) (cls : Value) (d : Option Addr) (pn : List (Addr × Obj)), Zc cls d oe → (∃ vs, oe.data = .fields vs) → PSs (X.suite a ((a, oe) :: pn)) (b₀ :: suite) (ts a cls d)) (r : HdsAs X n hds l) :
      HdsAs X n (.ExceptHandler (some (.Name x np)) (some n) (b₀ :: suite) pos' :: hds) ((c, ts) :: l)
section
variable {X : Cx} {body : List Stmt} {n : Str} {i : Nat} {h₀ : ExceptHandler} {hds : List ExceptHandler} {l : List (Value × Suite)} {pos : Pos} {tb : WX → TS} {Wout : WX}
theorem ps_try_mas (hs : X.stack = X.env :: X.outer) (hf : X.env.frame = some X.env.locals) (hN : X.N.Nodup) (hi : X.N[i]? = some n) (hln : X.env.kindOf n = some .local) (tk : Takes X Wout)
    (hb : ∀ (W : WX) (pn : List (Addr × Obj)) (xe : Value → Shared → Prop), Takes (X.tr pn xe) W → PassesOwn (model X.prog X.w) X.A X.env xe → PSs (X.tr pn xe) body (tb W))
    (hh : HdsAs X n (h₀ :: hds) l) : PS X (.Try body (h₀ :: hds) [] [] pos) (fun D σ H => tb (wMas X.K i Wout D l) D σ H) := by
  refine ⟨fun pins s σ H D I h => ?_⟩
  have ok := I.ok
  have hfr : X.A.frames = some (X.env :: X.outer) := by rw [ok.frames, hs]
  have hloc : Loc X.env.scope n := .inl hln
  refine wpAny_Try_except ?_
  refine wpAny_mono ((hb (wMas X.K i Wout D l) (X.pn ++ pins) (fun e s₁ => wpAny (model X.prog X.w) X.A (noteFrame e X.env) (fun _ s₂ => wpAny (model X.prog X.w) X.A (setFlight e none) (fun _ s₃ =>
    wpAny (model X.prog X.w) X.A (handleBy e X.env (h₀ :: hds)) (SP X pins D) X.xe s₃) X.xe s₂) X.xe s₁) (fun u s' xx => ?_) PassesOwn.looking).run [] s σ H D (I.toTry _) h) (fun f s1 hsp => ?_) (fun e s1 he => he)
  · obtain ⟨a, B, sI, pins', σ', H', cls, d, rfl, J', nb, up, sky, na, os, ag, w⟩ := xx
    have J : Inv X pins σ' H' sI := J'.ofTry ok
    have sky' : Sky B (X.env :: X.outer) a (Zc cls d) X.env.locals s'.heap := by rw [← hs]; exact sky
    show wpAny (model X.prog X.w) X.A (noteFrame (.ref a) X.env) _ _ _
    refine Sky.land Zc.steady hfr hf sky' fun h3 fl3 up3 => ?_
    have J3 : Inv X pins σ' H' { s' with heap := h3 } := J.landed nb fl3.1 (up.trans up3) os ag
    obtain ⟨oe3, vs3, he3, hz3, hd3⟩ := fl3.there
    have notFr : ∀ {h : Heap} {o : Obj} {vs : Array Value}, h.FunFrames B (X.env :: X.outer) → h.get? a = some o → o.data = .fields vs → a ∉ frs (X.env :: X.outer) := fun {h o vs} ff e dd hm => by
      obtain ⟨_, o', e', hnf⟩ := ff.mem hm
      rw [e] at e'; cases e'
      exact hnf _ dd
    have nfr := notFr fl3.2.2.1 he3 hd3
    have nL : a ≠ X.env.locals := fun z => nfr (List.mem_filterMap.mpr ⟨X.env, List.mem_cons_self, by rw [hf, z]⟩)
    have nF : a ∉ X.fs := fun hm => by
      obtain ⟨e, he, q⟩ := List.mem_filterMap.mp hm
      exact nfr (List.mem_filterMap.mpr ⟨e, List.mem_cons_of_mem _ he, q⟩)
    have S3 := J3.suite he3 hd3 na nL nF
    have go : ∀ {hds' : List ExceptHandler} {l' : List (Value × Suite)}, HdsAs X n hds' l' → wMas X.K i Wout D l' cls d σ' H' →
        wpAny (model X.prog X.w) X.A (handleBy (.ref a) X.env hds') (SP X pins D) X.xe { s' with heap := h3 } := by
      intro hds' l' hk
      induction hk with
      | nil =>
        intro w
        refine wpAny_handleBy_nil ?_
        obtain ⟨k1, k2, k3, oe, vs, T, oT, ts', he, hz, hd, h1, hr⟩ := id fl3
        unfold PySem.passOn
        refine wpAny_bind (wpAny_field he hd h1 ?_)
        rw [if_neg (show ¬ ((Value.ref T == Value.none) = true) from by simp)]
        have fin : wpAny (model X.prog X.w) X.A (setFlight (.ref a) X.env.frame) (fun _ s4 => wpAny (model X.prog X.w) X.A (throw (.ref a) : Sem Flow) (SP X pins D) X.xe s4) X.xe { s' with heap := h3 } := by
          rw [hf]
          refine HandSPX.setFlight_upZ fl3 fun h4 hh4 up4 => wpAny_throw (tk _ _ ?_)
          exact ⟨a, B, sI, pins, σ', H', cls, d, rfl, J, nb, (up.trans up3).trans up4, .inr (.inr (by rw [hs]; exact hh4)), na, os, ag, w⟩
        first
          | exact wpAny_bind (wpAny_pure (wpAny_bind fin))
          | exact wpAny_bind fin
      | @cons x c ts b₀ suite np pos' hds2 l2 hc hsu r ih =>
        intro w
        obtain ⟨b, hb1, hyes, hno⟩ := w
        refine wpAny_handleBy_cons (codeAny_handlers_test ?_) (by intro q; cases q)
        have LT : PySem.W.Looks (model X.prog X.w) h3 (typeOf (.ref a)) cls := fun A Q E s k q => wpAny_typeOf_ref (k _ _ he3) (by rw [hz3.1]; exact q)
        have LM := PySem.W.exm_one (M := model X.prog X.w) (J3.kIn) LT hb1
        have test : ∀ {Q : Value → Shared → Prop} {E : Value → Shared → Prop}, Q c { s' with heap := h3 } → wpAny (model X.prog X.w) (X.A.mark (some (.ref a))) (eval (.Name x np) X.env) Q E { s' with heap := h3 } := fun {Q E} q => by
          obtain ⟨hg, hdbg, hm | ⟨hm, hv, hnn⟩⟩ := hc
          · exact ld_glob (X := X.suite a ((a, oe3) :: (X.pn ++ pins))) S3 hg hm q hdbg
          · exact ld_blt (X := X.suite a ((a, oe3) :: (X.pn ++ pins))) S3 hg hm hv q hnn hdbg
        refine test (LM.here ?_)
        cases b with
        | true =>
          refine codeAny_handlers_suite_as ?_
          refine HandSPX.lands_againZ fl3 fun h4 fl4 up4 => ?_
          have J4 : Inv X pins σ' H' { s' with heap := h4 } := J.landed nb fl4.1 ((up.trans up3).trans up4) os ag
          obtain ⟨oe4, vs4, he4, hz4, hd4⟩ := fl4.there
          have S4 := J4.suite he4 hd4 na nL nF
          refine store_ok (X := X.suite a ((a, oe4) :: (X.pn ++ pins))) (v := .ref a) S4 hN hi hloc rfl (fun s5 S5 => ?_) (.inr hln)
          refine wpAny_mono ((hsu a oe4 cls d (X.pn ++ pins) hz4 ⟨_, hd4⟩).run [] s5 _ H' _ S5 (hyes rfl a na)) (fun f s6 hsp => ?_) (fun _ _ z => False.elim z)
          have end_ : ∀ {σ6 : L2.St} {H6 : Hp} {Q : Shared → Prop}, Inv (X.suite a ((a, oe4) :: (X.pn ++ pins))) [] σ6 H6 s6 → (∀ s7, Inv X pins (σ6.set i none) H6 s7 → Q s7) →
              wpAny (model X.prog X.w) X.A (do bindName X.env n .none; unbindBehindTheSuite X.env n pos') (fun _ s7 => Q s7) X.xe s6 := fun {σ6 H6 Q} S6 hq => gone_ok (S6.unsuite ok) hN hi hln hq
          cases f with
          | next =>
            obtain ⟨σ6, H6, S6, q6⟩ := hsp
            exact end_ S6 fun s7 J7 => ⟨_, _, J7, q6⟩
          | brk =>
            obtain ⟨σ6, H6, S6, q6⟩ := hsp
            exact end_ S6 fun s7 J7 => ⟨_, _, J7, q6⟩
          | cont =>
            obtain ⟨σ6, H6, S6, q6⟩ := hsp
            exact end_ S6 fun s7 J7 => ⟨_, _, J7, q6⟩
          | ret u =>
            obtain ⟨v6, σ6, H6, S6, r6, q6⟩ := hsp
            exact end_ S6 fun s7 J7 => ⟨_, _, _, J7, r6, q6⟩
        | false =>
          show wpAny _ X.A (handleBy (.ref a) X.env hds2) _ _ _
          exact ih (hno rfl)
    exact go hh w
  · cases f with
    | next =>
      obtain ⟨σ', H', J', q⟩ := hsp
      exact wpAny_execs_nil ⟨σ', H', J'.ofTry ok, q⟩
    | brk =>
      obtain ⟨σ', H', J', q⟩ := hsp
      exact ⟨σ', H', J'.ofTry ok, q⟩
    | cont =>
      obtain ⟨σ', H', J', q⟩ := hsp
      exact ⟨σ', H', J'.ofTry ok, q⟩
    | ret u =>
      obtain ⟨v, σ', H', J', r, q⟩ := hsp
      exact ⟨v, σ', H', J'.ofTry ok, r, q⟩
end
theorem roomM {k : Nat} {A : Around} {v : Option Value} (r : Room k A) : L2H.RoomH k (A.mark v) := ⟨r.dp, r.un⟩
/-! ### a def that is handed the caught error -/
open L2H in
structure FnP (P : Program) (w : World) (K : PySem.W.Frag) (mg : Str → Option Value) (base : Heap) (k : Nat) (f : Addr) (fd : FuncData) (ps : List Str) (sp : Addr → Value → Option Addr → Sp) : Prop where
  len : ∀ a cls d vs H Q E, sp a cls d vs H Q E → vs.length = ps.length
  run : ∀ (A : Around) (outer : List Env) (s : Shared) (H : Hp) (args : Args) (us : List Value) (vs : List V) (Q : VK) (E : XK) (p : Addr × Obj) (cls : Value) (d : Option Addr), RoomH k A → PinOk outer H s p → Zc cls d p.2 → (∃ fv, p.2.data = .fields fv) → Env0 P w K mg base A outer s H → BindsTo s fd args (ps.zip us) → Vals vs us → sp p.1 cls d vs H Q E →
    codeAny (model P w) A (.call (.ref f) args) (CR CX0 outer P w H s Q E) s
open L2H in
theorem fn_ofP {P : Program} {w : World} {K : PySem.W.Frag} {mg : Str → Option Value} {base : Heap} {k : Nat} {f : Addr} {name qual : Str} {params : Arguments} {body : List Stmt} {scope : Scope} {dV kV doc pm cdv ct oc : Value} {an od : Option Addr}
    {osl : Array (Option Value)} {N ps : List Str} {sp : Addr → Value → Option Addr → Sp} (lk : K.lookup f = some ⟨oc, od, .func (PySem.W.fnOf name qual params body scope dV kV doc pm an cdv ct), osl⟩) (hcd : PySem.W.codeIn K cdv qual = true) (S : FnScope N ps scope)
    (len : ∀ a cls d vs H Q E, sp a cls d vs H Q E → vs.length = ps.length)
    (hbody : ∀ (A : Around) (outer : List Env) (s : Shared) (H : Hp) (vs : List V) (Q : VK) (E : XK) (p : Addr × Obj) (cls : Value) (d : Option Addr), Zc cls d p.2 → (∃ fv, p.2.data = .fields fv) → RoomH k (A.deeper (envOfC qual scope s.heap.objs.size f cdv)) → sp p.1 cls d vs H Q E →
      ∃ t, PSs (cxH CX0 P w K mg base N qual scope f cdv A outer s H E p) body t ∧ t { nx := fun _ H' => Q .non H', rt := Q } (L2.start N vs) H) :
    FnP P w K mg base (k + 1) f (PySem.W.fnOf name qual params body scope dV kV doc pm an cdv ct) ps sp := by
  refine ⟨len, fun A outer s H args us vs Q E p cls d hr hpin hz hf e0 hb r hsp => ?_⟩
  have hl := len _ _ _ _ _ _ _ hsp
  have KX : K.In s.heap := e0.mod.kin.keeps fun b o e => (e0.bs b o e).1
  have lim : s.heap.NoLimit := e0.mod.nolimit.keeps fun b o e => (e0.bs b o e).1
  have hkind : ∀ y ∈ ps.zip us, scope.names.lookup y.1 = some .local ∨ (scope.names.lookup y.1 = some .cell ∧ ((cellsFrom (s.heap.objs.size + 1) scope.names []).lookup y.1).isSome = true) := fun ⟨n, v⟩ hy => by
    rcases S.par n (List.of_mem_zip hy).1 with q | q
    · exact .inl q
    · exact .inr ⟨q, PySem.W.cellsFrom_some _ _ _ (.inl q)⟩
  refine codeAny_call_function hr.depth (KX _ _ lk) rfl S.co S.gen rfl (PySem.W.codeRec_of KX hcd) (hb _ _ _ _ ?_)
  refine wpAny_newFunctionEnv_cells S.kind hkind fun env he s1 x => ?_
  subst he
  refine ⟨lim.keeps x.toInCall.keep, codeAny_func ?_⟩
  obtain ⟨t, ht, hq⟩ := hbody A outer s H vs Q E p cls d hz hf (hr.deeper _) hsp
  have I : Inv (cxH CX0 P w K mg base N qual scope f cdv A outer s H E p) [] (L2.start N vs) H s1 := inv_startH S hpin e0 hl r x
  refine wpAny_mono (ht.run [] s1 (L2.start N vs) H _ I hq) (fun fl s' hs => ?_) fun e s' hs => hs
  have fin : ∀ {σ' : L2.St} {H' : Hp} {v : V} {u : Value}, Inv (cxH CX0 P w K mg base N qual scope f cdv A outer s H E p) [] σ' H' s' → RelV v u → Q v H' → CE outer P w H s Q u s' :=
    fun {σ' H' v u} J rv q => ⟨v, H', J.os, J.bare, J.base, J.hok, rv, q⟩
  cases fl with
  | ret u =>
    obtain ⟨v, σ', H', J, rv, q⟩ := hs
    exact fin J rv q
  | next =>
    obtain ⟨σ', H', J, q⟩ := hs
    exact fin (v := V.non) (u := Value.none) J rfl q
  | brk =>
    obtain ⟨_, _, _, q⟩ := hs
    exact False.elim q
  | cont =>
    obtain ⟨_, _, _, q⟩ := hs
    exact False.elim q
section
variable {X : Cx} {k : Nat} {f : Addr} {fd : FuncData} {ps : List Str} {sp : Addr → Value → Option Addr → Sp} {x : Str} {q pos : Pos} {e : Expr} {es : List Expr} {t : TA}
open L2H in
theorem pe_callP {p : Addr × Obj} {a : Addr} {cls : Value} {d : Option Addr} (ea : p.1 = a) (F : FnP X.prog X.w X.K X.mg X.base k f fd ps sp) (hr : RoomH k X.A) (hp : p ∈ X.pn) (hz : Zc cls d p.2) (hf : ∃ fv, p.2.data = .fields fv) (hg : Gl X x) (hm : X.mg x = some (.ref f)) (hk : PySem.W.keepIn X.K (.ref f) = true) (hb : Binds X.K fd ps [])
    (ha : PA X (e :: es) t) (hdb : (x == ("__debug__" : Str)) = false := by decide) (he : starEach (e :: es) X.env = (false, eval e X.env) :: starEach es X.env := by rfl) (hpl : (backTo pos (starEach es X.env)).any (·.1) = false := by rfl) :
    PE X (.Call (.Name x q) (e :: es) [] pos) (tCall (sp a cls d) [] E0 t) := by
  subst ea
  refine ⟨fun pins s σ H Q I h => ?_⟩
  refine wpAny_Call_Name_kw (ld_glob I hg hm ?_ hdb)
  refine PySem.W.callWith_K (h₀ := X.base) I.ok.mod.kin hk (thn (ha.run pos pins s σ H _ I h) fun us s1 ⟨vs, H1, I1, r, h1⟩ => ⟨I1.kIn, ?_⟩) he hpl
  have h : sp p.1 cls d vs H1 Q E0 := by
    have h2 : sp p.1 cls d (vs ++ []) H1 Q E0 := h1
    rw [List.append_nil] at h2
    exact h2
  have hl : us.length = ps.length := by rw [← r.length]; exact F.len _ _ _ _ _ _ _ h
  have b := hb s1 us I1.kIn (by rw [List.append_nil]; exact hl)
  rw [List.append_nil] at b
  have P1 := I1.pin p (List.mem_append_left _ hp)
  have hpin : PinOk X.stack H1 s1 p := ⟨P1.1, P1.2.1, fun hm => (List.mem_cons.mp (I1.stkSub p.1 hm)).elim P1.2.2.1 P1.2.2.2.1, P1.2.2.2.2⟩
  refine wpAny_call (codeAny_mono (F.run X.A X.stack s1 H1 ⟨us, []⟩ us vs Q E0 p cls d hr hpin hz hf I1.env0 b r h) fun r s' hq => ?_)
  cases r with
  | error e => exact hq.elim
  | ok fl =>
    cases fl with
    | ret u => exact I1.after hq
    | next => exact False.elim hq
    | brk => exact False.elim hq
    | cont => exact False.elim hq
end
/-- n.f, n the error at a -/
def tXp (a : Addr) (cls : Value) (d : Option Addr) (C : Addr) (f : Str) (te : TE) : TE := fun σ H Q => te σ H fun x H1 => x = .ref a ∧ cls = .ref C ∧ ∃ (dd : Addr) (fs : List (Str × V)) (v : V), d = some dd ∧ H1 dd = some (.xd fs) ∧ fs.lookup f = some v ∧ Q v H1
theorem pe_xp {X : Cx} {C : Addr} {p : Addr × Obj} {a : Addr} {cls : Value} {d : Option Addr} {e : Expr} {te : TE} {pos : Pos} {n : Str} (ea : p.1 = a) (hp : p ∈ X.pn) (T : XfC X.K C) (hno : PySem.W.findIn X.K (.ref C) n = some none)
    (hz : Zc cls d p.2) (hf : ∃ vs, p.2.data = .fields vs) (he : PE X e te) (hb : attributeBase e n X.env (eval e X.env) = eval e X.env := by rfl) : PE X (.Attribute e n pos) (tXp a cls d C n te) := by
  subst ea
  refine ⟨fun pins s σ H Q I h => ?_⟩
  refine attr_of hb (thn (he.run pins s σ H _ I h) fun u s1 hh => ?_)
  obtain ⟨x, H1, I1, rx, ex, ec, dd, fs, v, ed, ea, l, q⟩ := hh
  subst ex
  obtain rfl : u = Value.ref p.1 := rx
  subst ec
  subst ed
  obtain ⟨ha, _⟩ := I1.pin p (List.mem_append_left _ hp)
  obtain ⟨vs, hd⟩ := hf
  have hx : ObjOk X.prog X.w H1 s1.heap dd (.xd fs) := I1.hok dd _ ea
  obtain ⟨mA, hns, hr⟩ := hx
  obtain ⟨od, ho, hl⟩ := lookIn_ns hns
  obtain ⟨u, hu, ru⟩ := RelO.some_of (v := v) (o := mA n) (by rw [← l]; exact hr n)
  have J : PySem.W.InstAt s1.heap p.1 p.2 C (some od) := ⟨ha, hz.1, by unfold PySem.W.notCls; rw [hd] <;> rfl, by rw [hz.2]; exact ho⟩
  exact HandSPX.exc_get I1.kIn J T.ga T.gg T.exC (PySem.W.findObj_own T.hdC hno rfl (by rw [hl, hu])) (handed_of ru) ⟨v, H1, I1.tok _, ru, q⟩
end Ver
namespace Ver
open PySem PySem.Spec PyProof.Rows L2
section
variable {X : Cx} {C : Addr} {bmB : List Value} {B newId initId : String} {x : Str} {p pos : Pos}
/-- X(), an error class without fields: a new object -/
theorem pe_exc0 (F : ExcBaseFacts B newId initId bmB) (q : PySem.W.excIn X.K C bmB newId = true) (hg : Gl X x) (gC : X.mg x = some (.ref C)) (kC : PySem.W.keepIn X.K (.ref C) = true) (hdb : (x == ("__debug__" : Str)) = false := by decide) :
    PE X (.Call (.Name x p) [] [] pos) (fun _ H Q => ∀ a, H a = none → Q (.ref a) (upd H a (ExO (.ref C) a))) := by
  refine ⟨fun pins s σ H Q I h => ?_⟩
  refine wpAny_Call_Name_kw (ld_glob I hg gC ?_ hdb)
  refine PySem.W.callWith_K0 I.kIn kC ?_
  obtain ⟨bm, N, nm, qn, bs, hdct, sn, sub, ab, col, dd, k0, k1, k2, k3, k5, mN, hC, hN, hni, T⟩ := exc_obj I.kIn q
  refine wpAny_call_exc_subT F T hC hN hni (fun h' a hm => ?_) (by show 0 ≤ sizeLine; exact Nat.zero_le _)
  have hn : H a = none := I.hok.gone hm.new
  obtain ⟨t, ht, _, _⟩ := hm.there
  exact ⟨.ref a, upd H a (ExO (.ref C) a), I.laidN hm.keeps hm.new hn (exO_ok ht ⟨rfl, rfl⟩ rfl rfl rfl (show 4 < 6 by decide)), rfl, h a hn⟩
/-- .. raised -/
theorem pmk_exc0 (F : ExcBaseFacts B newId initId bmB) (q : PySem.W.excIn X.K C bmB newId = true) (hg : Gl X x) (gC : X.mg x = some (.ref C)) (kC : PySem.W.keepIn X.K (.ref C) = true) (r : Raises X (.ref C)) (hdb : (x == ("__debug__" : Str)) = false := by decide) :
    PMk X (.Call (.Name x p) [] [] pos) (fun _ H Q => Q (.ref C) none H) := by
  intro pins s σ H Q I h
  refine wpAny_Call_Name_kw (ld_glob I hg gC ?_ hdb)
  refine PySem.W.callWith_K0 I.kIn kC ?_
  obtain ⟨bm, N, nm, qn, bs, hdct, sn, sub, ab, col, dd, k0, k1, k2, k3, k5, mN, hC, hN, hni, T⟩ := exc_obj I.kIn q
  refine wpAny_call_exc_subT F T hC hN hni (fun h' e hm => ?_) (by show 0 ≤ sizeLine; exact Nat.zero_le _)
  exact mk_of I hm r h (I.hok.gone hm.new)
end
/-! ### isinstance(e, C), isinstance(e, (A, B, ..)): of an error that stands by, of one that is held -/
theorem pin_at {X : Cx} {pins : List (Addr × Obj)} {σ : L2.St} {H : Hp} {s : Shared} {D : Addr} {p : Addr × Obj} {d : Option Addr} (I : Inv X pins σ H s) (hp : p ∈ X.pn) (hz : Zc (.ref D) d p.2) (hf : ∃ vs, p.2.data = .fields vs) (hd : ∀ dd, d = some dd → ∃ fs, H dd = some (.xd fs)) :
    ∃ od : Option Obj, PySem.W.InstAt s.heap p.1 p.2 D od := by
  obtain ⟨vs, hv⟩ := hf
  obtain ⟨hget, _⟩ := I.pin p (List.mem_append_left _ hp)
  cases d with
  | none =>
    refine ⟨none, ?_⟩
    obtain ⟨a, oc, od, oda, osl⟩ := p
    obtain ⟨h1, h2⟩ := hz
    dsimp only at h1 h2 hv hget
    subst h1 h2 hv
    exact ⟨hget, rfl, rfl, trivial⟩
  | some dd =>
    obtain ⟨fs, ea⟩ := hd dd rfl
    have hx : ObjOk X.prog X.w H s.heap dd (.xd fs) := I.hok dd _ ea
    obtain ⟨mA, hns, hr⟩ := hx
    obtain ⟨od, ho, hl⟩ := lookIn_ns hns
    exact ⟨some od, hget, hz.1, by unfold PySem.W.notCls; rw [hv] <;> rfl, by rw [hz.2]; exact ho⟩
theorem held_at {X : Cx} {pins : List (Addr × Obj)} {σ : L2.St} {H : Hp} {s : Shared} {D a : Addr} (I : Inv X pins σ H s) (ha : H a = some (ExO (.ref D) a)) : ∃ oe : Obj, PySem.W.InstAt s.heap a oe D none := by
  obtain ⟨⟨oe, vs, ho, hz, hv, _⟩, _, _⟩ := I.hok a _ ha
  refine ⟨oe, ?_⟩
  obtain ⟨oc, od, oda, osl⟩ := oe
  obtain ⟨h1, h2⟩ := hz
  dsimp only at h1 h2 hv
  subst h1 h2 hv
  exact ⟨ho, rfl, rfl, trivial⟩
theorem excC_kit {K : PySem.W.Frag} {D a : Addr} {ox : Obj} {od : Option Obj} (C : ExcC K D) : PySem.W.KitX K (.ref a) (.ref D) (fun h => PySem.W.InstAt h a ox D od) :=
  PySem.W.kitx_exc (by obtain ⟨cd, hc, _⟩ := PySem.W.any_some C.hd; rw [hc]; rfl) C.hg C.hk C.hs C.ha C.hn C.ht C.hm
def rIsS (K : PySem.W.Frag) (a : Addr) (cls : Value) (d : Option Addr) : List V → Hp → VK → Prop := fun xs H Q => ∃ (D : Addr) (c : V) (cv : Value) (b : Bool), xs = [.ref a, c] ∧ cls = .ref D ∧ ExcC K D ∧ (∀ dd, d = some dd → ∃ fs, H dd = some (.xd fs)) ∧ ClsV c cv ∧ PySem.W.kitOne K (.ref D) cv = some b ∧ Q (.bl b) H
theorem call_isS {X : Cx} {K : PySem.W.Frag} {p : Addr × Obj} {a : Addr} {cls : Value} {d : Option Addr} (ek : X.K = K) (ea : p.1 = a) (hp : p ∈ X.pn) (hz : Zc cls d p.2) (hf : ∃ vs, p.2.data = .fields vs) : CallR X (.builtin "isinstance") (rIsS K a cls d) := by
  subst ea
  subst ek
  intro pins s σ H xs us Q I r h
  obtain ⟨D, c, cv, b, rfl, rfl, C, hd, hcv, e, q⟩ := h
  obtain ⟨u1, u2, rfl, r1, r2⟩ := vals2 r
  cases (show u1 = Value.ref p.1 from r1)
  obtain ⟨od, J⟩ := pin_at I hp hz hf hd
  have e3 := ClsV.all (.cons hcv .nil) (show Vals [c] [u2] from .cons r2 .nil)
  simp only [List.cons.injEq, and_true] at e3
  subst e3
  exact PySem.W.kia_one (excC_kit C) I.kIn J e (fun z => nomatch z) fun tk => ⟨.bl b, H, I.tok tk, rfl, q⟩
def rIsST (K : PySem.W.Frag) (a : Addr) (cls : Value) (d : Option Addr) : List V → Hp → VK → Prop := fun xs H Q => ∃ (D tp : Addr) (cs : List V) (cvs : List Value) (b : Bool), xs = [.ref a, .ref tp] ∧ cls = .ref D ∧ ExcC K D ∧ (∀ dd, d = some dd → ∃ fs, H dd = some (.xd fs)) ∧ H tp = some (.tup cs) ∧ Paired ClsV cs cvs ∧ PySem.W.kitAny K (.ref D) cvs = some b ∧ Q (.bl b) H
theorem call_isST {X : Cx} {K : PySem.W.Frag} {p : Addr × Obj} {a : Addr} {cls : Value} {d : Option Addr} (ek : X.K = K) (ea : p.1 = a) (hp : p ∈ X.pn) (hz : Zc cls d p.2) (hf : ∃ vs, p.2.data = .fields vs) : CallR X (.builtin "isinstance") (rIsST K a cls d) := by
  subst ea
  subst ek
  intro pins s σ H xs us Q I r h
  obtain ⟨D, tp, cs, cvs, b, rfl, rfl, C, hd, hT, k, e, q⟩ := h
  obtain ⟨u1, u2, rfl, r1, r2⟩ := vals2 r
  cases (show u1 = Value.ref p.1 from r1)
  cases (show u2 = Value.ref tp from r2)
  obtain ⟨od, J⟩ := pin_at I hp hz hf hd
  obtain ⟨_, its, rv, o, h1, h2, n, h3⟩ := (show ObjOk X.prog X.w H s.heap tp (.tup cs) from I.hok tp _ hT)
  have e3 := ClsV.all k rv
  subst e3
  obtain ⟨oc, od2, dt, sl⟩ := o
  simp only at h2 h3
  subst h2 h3
  exact PySem.W.kia_tup (excC_kit C) I.kIn J h1 e (fun z => nomatch z) fun tk => ⟨.bl b, H, I.tok tk, rfl, q⟩
def rIsO (K : PySem.W.Frag) : List V → Hp → VK → Prop := fun xs H Q => ∃ (a D : Addr) (c : V) (cv : Value) (b : Bool), xs = [.ref a, c] ∧ ExcC K D ∧ H a = some (ExO (.ref D) a) ∧ ClsV c cv ∧ PySem.W.kitOne K (.ref D) cv = some b ∧ Q (.bl b) H
theorem call_isO {X : Cx} : CallR X (.builtin "isinstance") (rIsO X.K) := by
  intro pins s σ H xs us Q I r h
  obtain ⟨a, D, c, cv, b, rfl, C, hE, hcv, e, q⟩ := h
  obtain ⟨u1, u2, rfl, r1, r2⟩ := vals2 r
  cases (show u1 = Value.ref a from r1)
  obtain ⟨ox, J⟩ := held_at I hE
  have e3 := ClsV.all (.cons hcv .nil) (show Vals [c] [u2] from .cons r2 .nil)
  simp only [List.cons.injEq, and_true] at e3
  subst e3
  exact PySem.W.kia_one (excC_kit C) I.kIn J e (fun z => nomatch z) fun tk => ⟨.bl b, H, I.tok tk, rfl, q⟩
def rIsOT (K : PySem.W.Frag) : List V → Hp → VK → Prop := fun xs H Q => ∃ (a D tp : Addr) (cs : List V) (cvs : List Value) (b : Bool), xs = [.ref a, .ref tp] ∧ ExcC K D ∧ H a = some (ExO (.ref D) a) ∧ H tp = some (.tup cs) ∧ Paired ClsV cs cvs ∧ PySem.W.kitAny K (.ref D) cvs = some b ∧ Q (.bl b) H
theorem call_isOT {X : Cx} : CallR X (.builtin "isinstance") (rIsOT X.K) := by
  intro pins s σ H xs us Q I r h
  obtain ⟨a, D, tp, cs, cvs, b, rfl, C, hE, hT, k, e, q⟩ := h
  obtain ⟨u1, u2, rfl, r1, r2⟩ := vals2 r
  cases (show u1 = Value.ref a from r1)
  cases (show u2 = Value.ref tp from r2)
  obtain ⟨ox, J⟩ := held_at I hE
  obtain ⟨_, its, rv, o, h1, h2, n, h3⟩ := (show ObjOk X.prog X.w H s.heap tp (.tup cs) from I.hok tp _ hT)
  have e3 := ClsV.all k rv
  subst e3
  obtain ⟨oc, od2, dt, sl⟩ := o
  simp only at h2 h3
  subst h2 h3
  exact PySem.W.kia_tup (excC_kit C) I.kIn J h1 e (fun z => nomatch z) fun tk => ⟨.bl b, H, I.tok tk, rfl, q⟩
end Ver
namespace Ver
open PySem PySem.Spec PyProof.Rows L2 Evl
/-! ### a def that raises nothing, where errors may go by -/
theorem FnOk.up {P : Program} {w : World} {K : PySem.W.Frag} {mg : Str → Option Value} {base : Heap} {k : Nat} {f : Addr} {fd : FuncData} {ps : List Str} {sp : Sp} (F : FnOk P w K mg base CX0 k f fd ps sp) : FnOk P w K mg base (L2.CX P w) k f fd ps sp :=
  ⟨F.len, fun A outer s H args us vs Q E hr he hb hv hs => codeAny_mono (F.run A outer s H args us vs Q E hr he hb hv hs) fun r s' hq => by
    cases r with
    | error e => exact hq.elim
    | ok fl => cases fl <;> exact hq⟩
theorem FnOk.both {P : Program} {w : World} {K : PySem.W.Frag} {mg : Str → Option Value} {base : Heap} {CX : CXT} {k : Nat} {f : Addr} {fd : FuncData} {ps : List Str} {sp sp' : Sp} (F : FnOk P w K mg base CX k f fd ps sp) (G : FnOk P w K mg base CX k f fd ps sp') :
    FnOk P w K mg base CX k f fd ps fun vs H Q E => sp vs H Q E ∨ sp' vs H Q E :=
  ⟨fun vs H Q E h => h.elim (F.len _ _ _ _) (G.len _ _ _ _), fun A outer s H args us vs Q E hr he hb hv hs => hs.elim (F.run A outer s H args us vs Q E hr he hb hv) (G.run A outer s H args us vs Q E hr he hb hv)⟩
/-! ### C(..), whose __init__ may raise -/
section
variable {X : Cx} {CX : CXT} {k : Nat} {f C : Addr} {fd : FuncData} {ps : List Str} {sp : Sp} {E : L2.St → XK} {x : Str} {p pos : Pos} {e : Expr} {es : List Expr} {t : TA}
theorem run_makeS {pins : List (Addr × Obj)} {σ : L2.St} {H : Hp} {s : Shared} {Q : VK} {us : List Value} {vs : List V} (M : Mk X.K C f) (F : FnOk X.prog X.w X.K X.mg X.base CX k f fd ps sp) (hr : Room (k + 1) X.A) (hb : L2.Binds X.K fd ps [])
    (hx : PassesAt CX X σ (E σ)) (I : Inv X pins σ H s) (r : Vals vs us)
    (h : ∀ x dx, H x = none → H dx = none → dx ≠ x → sp (.ref x :: vs) (L2.upd (L2.upd H dx (.own x)) x (.ins C dx [])) (fun v H2 => v = .non ∧ Q (.ref x) H2) (E σ)) :
    wpAny (model X.prog X.w) X.A (call (.ref C) us) (EP X pins σ Q) X.xe s := by
  have hq := h (s.heap.objs.size + 1) s.heap.objs.size (I.hok.fresh (Nat.le_succ _)) (I.hok.fresh (Nat.le_refl _)) (Nat.ne_of_lt (Nat.lt_succ_self _))
  have I2 := Inv.made (C := C) I
  have r2 : Vals (V.ref (s.heap.objs.size + 1) :: vs) (Value.ref (s.heap.objs.size + 1) :: us) := .cons rfl r
  have hl : (Value.ref (s.heap.objs.size + 1) :: us ++ []).length = ps.length := by
    have e := r2.length
    rw [F.len _ _ _ _ hq] at e
    rw [List.append_nil]
    exact e.symm
  have b := hb _ (Value.ref (s.heap.objs.size + 1) :: us) I2.kIn hl
  rw [List.append_nil] at b
  refine wpAny_call (make_map (f := f) I.kIn M.makes M.init (beq_iff_eq.mp M.fn) (codeAny_mono (F.run _ X.stack _ _ ⟨Value.ref (s.heap.objs.size + 1) :: us, []⟩ (Value.ref (s.heap.objs.size + 1) :: us) _ _ (E σ) (hr.make C us [])
    (I2.env0.make C us []) b r2 hq) fun r s' hq' => ?_))
  cases r with
  | error e => exact hx pins _ _ e s' I2 hq'
  | ok fl =>
    cases fl with
    | ret u =>
      obtain ⟨v, H', I3, rv, ev, q3⟩ := I2.after hq'
      subst ev
      exact ⟨rv, ⟨V.ref (s.heap.objs.size + 1), H', I3, rfl, q3⟩⟩
    | next => exact False.elim hq'
    | brk => exact False.elim hq'
    | cont => exact False.elim hq'
def tMakeS (C : Addr) (sp : Sp) (E : L2.St → XK) (t : TA) : TE := fun σ H Q => t σ H fun vs H1 => ∀ x dx, H1 x = none → H1 dx = none → dx ≠ x → sp (.ref x :: vs) (L2.upd (L2.upd H1 dx (.own x)) x (.ins C dx [])) (fun v H2 => v = .non ∧ Q (.ref x) H2) (E σ)
theorem pe_makeS (M : Mk X.K C f) (F : FnOk X.prog X.w X.K X.mg X.base CX k f fd ps sp) (hr : Room (k + 1) X.A) (hg : Gl X x) (hm : X.mg x = some (.ref C)) (hb : L2.Binds X.K fd ps []) (hx : ∀ σ, PassesAt CX X σ (E σ))
    (ha : PA X (e :: es) t) (hdb : (x == ("__debug__" : Str)) = false := by decide) (he : starEach (e :: es) X.env = (false, eval e X.env) :: starEach es X.env := by rfl) (hpl : (backTo pos (starEach es X.env)).any (·.1) = false := by rfl) :
    PE X (.Call (.Name x p) (e :: es) [] pos) (tMakeS C sp E t) := by
  refine ⟨fun pins s σ H Q I h => ?_⟩
  refine wpAny_Call_Name_kw (ld_glob I hg hm ?_ hdb)
  refine PySem.W.callWith_K (h₀ := X.base) I.ok.mod.kin M.kp (thn (ha.run pos pins s σ H _ I h) fun us s1 ⟨vs, H1, I1, r, q⟩ => ⟨I1.kIn, ?_⟩) he hpl
  exact run_makeS M F hr hb (hx σ) I1 r q
end
/-! ### errors with fields -/
/-- __init__ of an error: its fields are fs of what it is handed -/
def spErr (C : Addr) (n : Nat) (fs : List V → List (Str × V)) : Sp := fun vs H Q _ => ∃ (a : Addr) (us : List V), vs = .ref a :: us ∧ us.length = n ∧ H a = some (exo a C none) ∧ ∀ dx H2, H dx = none → dx ≠ a → H2 a = some (exo a C (some dx)) → H2 dx = some (exd dx (fs us)) → (∀ b, b ≠ a → b ≠ dx → H2 b = H b) → Q .non H2
/-- what a def that raises promises: an error of the class at C with these fields, told of the heap behind it -/
def RetE (C : Addr) (fs : List (Str × V)) (H : Hp) (E : XK) : Prop := ∀ d H2, Ex H H2 → H d = none → H2 d = some (.xd fs) → E (.ref C) (some d) H2
def RetE0 (C : Addr) (H : Hp) (E : XK) : Prop := ∀ H2, Ex H H2 → E (.ref C) none H2
/-- an error class with fields -/
structure ErrC (P : Program) (w : World) (K : PySem.W.Frag) (mg : Str → Option Value) (base : Heap) (x : Str) (C : Addr) (n : Nat) (ps : List Str) (fs : List V → List (Str × V)) : Prop where
  o : OexC K C
  g : mg x = some (.ref C)
  xf : XfC K C
  ec : ExcC K C
  init : ∃ fI fd, PySem.W.findIn K (.ref C) "__init__" = some (some (.ref fI)) ∧ PySem.W.typeIn K (.ref fI) = some (.type "function") ∧ FnOk P w K mg base CX0 1 fI fd ps (spErr C n fs) ∧ L2.Binds K fd ps []
section
variable {X : Cx} {C : Addr} {n : Nat} {ps : List Str} {fs : List V → List (Str × V)} {x : Str} {p pos pos2 : Pos} {e : Expr} {es : List Expr} {ta : TA} {W : WX}
def tRaiseE (C : Addr) (n : Nat) (fs : List V → List (Str × V)) (W : WX) (ta : TA) : TS := fun _ σ H => tMkO C (spErr C n fs) [] ta σ H fun cls d H' => W cls d σ H'
theorem ps_raiseE (hc : X.calm = true) (G : ErrC X.prog X.w X.K X.mg X.base x C n ps fs) (hr : Room 2 X.A) (tk : Takes X W) (ha : PA X (e :: es) ta) (hg : Gl X x) (hdb : (x == ("__debug__" : Str)) = false := by decide) (he : starEach (e :: es) X.env = (false, eval e X.env) :: starEach es X.env := by rfl) (hpl : (backTo pos (starEach es X.env)).any (·.1) = false := by rfl) :
    PS X (.Raise (some (.Call (.Name x p) (e :: es) [] pos)) none pos2) (tRaiseE C n fs W ta) := by
  obtain ⟨fI, fd, iC, tI, F1, hb⟩ := G.init
  exact ps_raise hc tk (pmk_oex (dvs := []) (ds := []) G.o iC tI F1 hr hb .nil pass0 hg G.g ha hdb he hpl)
theorem s_raiseE {σ : L2.St} {H : Hp} {D : Ends} {vs : List V} (h : EvA ta σ H vs) (hl : vs.length = n) (hn : n ≤ 1000) (k : ∀ H1, Ex H H1 → ∀ d, H1 d = none → W (.ref C) (some d) σ (L2.upd H1 d (.xd (fs vs)))) : tRaiseE C n fs W ta D σ H :=
  h H (Ex.refl H) _ fun H1 e1 => ⟨by omega, fun a ha => ⟨a, vs, by rw [List.append_nil], hl, upd_same, fun dx H2 h1 h2 h3 h4 h5 => ⟨rfl, dx, fs vs, h3, h4, by
    rw [upd_ne h2] at h1
    exact h1, by
    have e : L2.upd (L2.del H2 a) dx (.xd (fs vs)) = L2.upd H1 dx (.xd (fs vs)) := by
      funext b
      by_cases c : b = dx
      · rw [c, upd_same, upd_same]
      · rw [upd_ne c, upd_ne c]
        by_cases c2 : b = a
        · rw [c2, L2.del_same, ha]
        · rw [L2.del_ne c2, h5 b c2 c, upd_ne c2]
    rw [e]
    rw [upd_ne h2] at h1
    exact k H1 e1 dx h1⟩⟩⟩
/-- .. out of a def -/
theorem s_raiseR {σ : L2.St} {H H0 : Hp} {D : Ends} {vs : List V} {E : XK} (h : EvA ta σ H vs) (hl : vs.length = n) (hn : n ≤ 1000) (e0 : Ex H0 H) (q : RetE C (fs vs) H0 E) : tRaiseE C n fs (fun cls d _ H => E cls d H) ta D σ H :=
  s_raiseE h hl hn fun H1 e1 d hd => q d _ ((e0.trans e1).trans (Ex.new hd)) (fresh_back (e0.trans e1) hd) upd_same
end
/-- an error class without fields -/
structure ErrO (K : PySem.W.Frag) (mg : Str → Option Value) (x : Str) (C : Addr) : Prop where
  g : mg x = some (.ref C)
  q : PySem.W.excIn K C [.type "ValueError", .type "Exception", .type "BaseException", .type "object"] "ValueError.__new__" = true
  kC : PySem.W.keepIn K (.ref C) = true
  tyC : PySem.W.typeIn K (.ref C) = some (.type "type")
  ec : ExcC K C
def tRaise0 (C : Addr) (W : WX) : TS := fun _ σ H => W (.ref C) none σ H
theorem ps_raise0 {X : Cx} {C : Addr} {x : Str} {p pos pos2 : Pos} {W : WX} (hc : X.calm = true) (G : ErrO X.K X.mg x C) (tk : Takes X W) (hg : Gl X x) (hdb : (x == ("__debug__" : Str)) = false := by decide) :
    PS X (.Raise (some (.Call (.Name x p) [] [] pos)) none pos2) (tRaise0 C W) := ps_raise hc tk (pmk_exc0 PySem.F.excBase_ValueError G.q hg G.g G.kC (raises_own G.ec.hs G.tyC) hdb)
/-- a def that is handed the caught error -/
theorem okP {P : Program} {w : World} {K : PySem.W.Frag} {mg : Str → Option Value} {base : Heap} {x qual : Str} {st : Stmt} {f : Addr} {fd : FuncData} {N ps : List Str} {k : Nat} {sp : Addr → Value → Option Addr → Sp} (F : Fun K x qual st f fd) (S : FnScope N ps (defScope st)) (len : ∀ a cls d vs H Q E, sp a cls d vs H Q E → vs.length = ps.length)
    (hbody : ∀ (cdv : Value) (A : Around) (outer : List Env) (s : Shared) (H : Hp) (vs : List V) (Q : VK) (E : XK) (p : Addr × Obj) (cls : Value) (d : Option Addr), Zc cls d p.2 → (∃ fv, p.2.data = .fields fv) → L2H.RoomH k (A.deeper (envOfC qual (defScope st) s.heap.objs.size f cdv)) → sp p.1 cls d vs H Q E →
      ∃ t, PSs (L2H.cxH CX0 P w K mg base N qual (defScope st) f cdv A outer s H E p) (defBody st) t ∧ t { nx := fun _ H' => Q .non H', rt := Q } (L2.start N vs) H) : FnP P w K mg base (k + 1) f fd ps sp := by
  obtain ⟨oc, od, kV, doc, pm, an, cdv, ct, osl, rfl, lk, hcd⟩ := F.ex
  exact fn_ofP lk hcd S len fun A outer s H vs Q E p cls d hz hf hr hsp => hbody cdv A outer s H vs Q E p cls d hz hf hr hsp
theorem kitAny_none {K : PySem.W.Frag} {t : Value} : ∀ us : List Value, (∀ u ∈ us, PySem.W.kitOne K t u = some false) → PySem.W.kitAny K t us = some false
  | [], _ => rfl
  | u :: us, h => kitAny_cons (h u (List.mem_cons_self ..)) (fun _ => kitAny_none us fun v hv => h v (List.mem_cons_of_mem _ hv)) (fun z => nomatch z)
end Ver
namespace Ver
open PySem PySem.Spec PyProof.Rows L2 Evl
/-- what == of own objects asks of their class -/
structure EqC (K : PySem.W.Frag) (C : Addr) : Prop where
  hc : PySem.W.findIn K (.ref C) "__class__" = some (some (.builtin "object.__class__"))
  hn : PySem.W.specialIn K (.builtin "object.__class__") "__get__" = some (some (.builtin "getset_descriptor.__get__"))
  ht : PySem.W.takesIn K (.builtin "object.__class__") = some true
  mo : PySem.W.mroIn K C (.type "object") = some true
  kk : PySem.W.kitOne K (.ref C) (.ref C) = some true
  ks : PySem.W.kitOne K (.type "str") (.ref C) = some false
theorem notFirst_str {K : PySem.W.Frag} {C : Addr} : PySem.W.notFirst K C (.type "str") = true := by
  have e : PySem.W.subIn K (.type "str") (.ref C) = some false := by
    show (fastBuiltinMro "str").map (fun l => l.contains (.ref C)) = some false
    rfl
  show ((.type "str" : Value) == .ref C || PySem.W.subIn K (.type "str") (.ref C) == some false) = true
  rw [e]
  exact Bool.or_true _
theorem notFirst_own {K : PySem.W.Frag} {C : Addr} : PySem.W.notFirst K C (.ref C) = true := by
  show ((.ref C : Value) == .ref C || _) = true
  rw [beq_self_eq_true]
  rfl
/-- x == y, x an object of the class at C with an own __eq__ -/
def rOwn (C : Addr) (sp : Sp) (E : XK) : R2 := fun x y H Q => ∃ a dx fs, x = .ref a ∧ H a = some (.ins C dx fs) ∧ ((∃ b dy gs, y = .ref b ∧ H b = some (.ins C dy gs)) ∨ ∃ s, y = .str s) ∧ sp [x, y] H (fun v H' => (∃ b, v = .bl b) ∧ Q v H') E
section
variable {X : Cx} {CX : CXT} {k : Nat} {f C : Addr} {fd : FuncData} {ps : List Str} {sp : Sp} {E : XK}
theorem op_own (M : Meth X.K C "__eq__" f) (F : FnOk X.prog X.w X.K X.mg X.base CX k f fd ps sp) (hr : Room k X.A) (hb : L2.Binds X.K fd ps []) (hx : Passes CX X E) : OpR X (compareOp .Eq) (rOwn C sp E) := by
  intro pins s σ H x y v u Q I rx ry h
  obtain ⟨a, dx, fs, rfl, ha, hy, hq⟩ := h
  obtain rfl : v = Value.ref a := rx
  obtain ⟨mA, J, _⟩ := ins_get I.hok ha
  obtain ⟨od, J, _⟩ := J.look
  obtain ⟨m, hF⟩ := I.fr
  show wpAny (model X.prog X.w) X.A (richCompare .Eq (.ref a) u) (EP X pins σ Q) X.xe s
  have go : wpAny (model X.prog X.w) X.A (call (.ref f) [.ref a, u]) (PySem.W.CmpBack (EP X pins σ Q)) X.xe s :=
    wpAny_mono (run_fn (us := [.ref a, u]) (vs := [.ref a, y]) (dvs := []) (ds := []) F hr hb .nil hx I (.cons rfl (.cons ry .nil)) hq) (fun r s' z => by
      obtain ⟨w, H', I', rw', ⟨b, hb'⟩, q⟩ := z
      subst hb'
      obtain rfl : r = Value.bool b := rw'
      exact ⟨.bl b, H', I', rfl, q⟩) fun _ _ z => z
  rcases hy with ⟨b, dy, gs, rfl, hb2⟩ | ⟨t, rfl⟩
  · obtain rfl : u = Value.ref b := ry
    obtain ⟨mB, J', _⟩ := ins_get I.hok hb2
    obtain ⟨od', J', _⟩ := J'.look
    exact PySem.W.cmp_K (op := .Eq) (tb := .ref C) hr.units0 hF I.ok.mod.kin J J'.type notFirst_own M.at_ M.fn go
  · obtain ⟨tk, rfl⟩ : ∃ tk, u = Value.str t tk := ry
    exact PySem.W.cmp_K (op := .Eq) (tb := .type "str") hr.units0 hF I.ok.mod.kin J (PySem.W.looks_typeIn I.kIn rfl) notFirst_str M.at_ M.fn go
/-! ### o.m(k = v, ..) -/
def tMethN (C : Addr) (m : Str) (n : Nat) (sp : Sp) (gV : List V → List V → List V) (E : XK) (ta : TE) (tk : TA) : TE := fun σ H Q => ta σ H fun x H1 => ∃ a dx fs, x = .ref a ∧ H1 a = some (.ins C dx fs) ∧ fs.lookup m = none ∧ tk σ H1 fun zs H2 => zs.length = n ∧ sp (gV [.ref a] zs) H2 Q E
theorem pe_methN {m : Str} {o : Expr} {apos pos : Pos} {kws : List Keyword} {ks : List Str} {ta : TE} {tk : TA} {g : List Value → List Value → List Value} {gV : List V → List V → List V} {pl : Sem Bool} (he : PE X o ta) (c : Cls X.K C) (hm : Meth X.K C m f) (F : FnOk X.prog X.w X.K X.mg X.base CX k f fd ps sp) (hr : Room k X.A)
    (hb : KBn X.K fd ps 1 ks g gV) (hx : Passes CX X E) (hkw : PK X kws tk) (hall : (backToKw pos (keywordEach kws X.env)).all (·.1.isSome) = true := by rfl) (hks : (backToKw pos (keywordEach kws X.env)).filterMap (·.1) = ks := by rfl)
    (hpl : ((backTo pos (starEach [] X.env)).any (·.1) || (backToKw pos (keywordEach kws X.env)).any (·.1.isNone)) = false := by rfl)
    (ht : eval (.Call (.Attribute o m apos) [] kws pos) X.env = (do
      let ov ← eval o X.env
      standAt apos.atName
      let (f, first) ← holding [ov] (getMethod ov m pl)
      callWith pos f first (backTo pos (starEach [] X.env)) (backToKw pos (keywordEach kws X.env))) := by rfl) :
    PE X (.Call (.Attribute o m apos) [] kws pos) (tMethN C m ks.length sp gV E ta tk) := by
  refine ⟨fun pins s σ H Q I h => ?_⟩
  refine PySem.W.methodCall_KW (pl := pl) (thn (he.run pins s σ H _ I h) fun u s1 ⟨x, H1, I1, rx, a, dx, fs, ex, ea, l, q⟩ => ?_) ht
  subst ex
  obtain rfl : u = Value.ref a := rx
  refine getmeth_ok I1 ea c hm l ?_
  refine PySem.W.callWith_KW0 (h₀ := X.base) I1.ok.mod.kin hm.kp hall ?_ hpl
  refine thn (hkw.run pos pins s1 σ H1 _ I1 q) fun ws s2 ⟨zs, H2, I2, rz, l2, q2⟩ => ⟨I2.kIn, ?_⟩
  rw [hks]
  exact run_fnN (us := [.ref a]) (vs := [.ref a]) F hr hb hx I2 (.cons rfl .nil) rz rfl l2 q2
end
/-! ### the rules of the sections -/
section
variable {K : PySem.W.Frag} {σ : L2.St} {H : Hp} {C : Addr} {ta tb : TE}
theorem ev_own {sp : Sp} {E : XK} {a dx : Addr} {fs : List (Str × V)} {y : V} {b : Bool} (ha : Ev ta σ H (.ref a)) (hb : Ev tb σ H y) (hi : H a = some (.ins C dx fs)) (hy : (∃ c dy gs, y = .ref c ∧ H c = some (.ins C dy gs)) ∨ ∃ s, y = .str s)
    (hs : ∀ H1, Ex H H1 → ∀ Q : VK, (∀ H2, Ex H1 H2 → Q (.bl b) H2) → sp [.ref a, y] H1 Q E) : Ev (tOp (rOwn C sp E) ta tb) σ H (.bl b) := fun H1 e Q q => ha H1 e _ fun H2 e2 => hb H2 (e.trans e2) _ fun H3 e3 =>
  ⟨a, dx, fs, rfl, ((e.trans e2).trans e3) _ _ hi, hy.imp (fun ⟨c, dy, gs, h1, h2⟩ => ⟨c, dy, gs, h1, ((e.trans e2).trans e3) _ _ h2⟩) (fun z => z), hs H3 ((e.trans e2).trans e3) _ fun H4 e4 => ⟨⟨b, rfl⟩, q H4 ((e2.trans e3).trans e4)⟩⟩
theorem rc_isiC {a dx : Addr} {fs : List (Str × V)} (G : EqC K C) (cl : Cls K C) (h : H a = some (.ins C dx fs)) : RC (rIsi K) [.ref a, .ref C] H (.bl true) := fun H1 e _ q =>
  ⟨.ref a, .ref C, _, _, true, rfl, .own C, .base (.ins (e _ _ h) cl G.hc G.hn G.ht G.mo), G.kk, q H1 (Ex.refl H1)⟩
theorem rc_isiCs {s : Str} (G : EqC K C) : RC (rIsi K) [.str s, .ref C] H (.bl false) := fun H1 _ _ q =>
  ⟨.str s, .ref C, _, _, false, rfl, .own C, .base (.str s), G.ks, q H1 (Ex.refl H1)⟩
/-- a method's call by name of its one parameter -/
theorem ev_methN {m : Str} {sp : Sp} {E : XK} {a dx : Addr} {fs : List (Str × V)} {gV : List V → List V → List V} {t : TA} {vs : List V} {v : V} {n : Nat} (ha : Ev ta σ H (.ref a)) (hi : H a = some (.ins C dx fs)) (hl : fs.lookup m = none) (ht : EvA t σ H vs) (hn : vs.length = n)
    (h : ∀ H1, Ex H H1 → ∀ Q : VK, (∀ H2, Ex H1 H2 → Q v H2) → sp (gV [.ref a] vs) H1 Q E) : Ev (tMethN C m n sp gV E ta t) σ H v := fun H1 e Q q => ha H1 e _ fun H2 e2 => ⟨a, dx, fs, rfl, (e.trans e2) _ _ hi, hl, ht H2 (e.trans e2) _ fun H3 e3 => ⟨hn, h H3 ((e.trans e2).trans e3) Q fun H4 e4 => q H4 ((e2.trans e3).trans e4)⟩⟩
end
/-! ### list(text) -/
def rListS : List V → Hp → VK → Prop := fun xs H Q => ∃ l : List Nat, xs = [tx l] ∧ l.length ≤ 1000 ∧ ∀ p, H p = none → Q (.ref p) (L2.upd H p (.lst (l.map fun c => tx [c])))
theorem vals_signs {l : List Nat} {its : List Value} (hl : its.length = l.length) (h : ∀ (j : Nat) (v : Value), its[j]? = some v → ∃ (c : Nat) (u : Tok), l[j]? = some c ∧ v = Value.str ⟨#[c]⟩ u) : Vals (l.map fun c => tx [c]) its := by
  induction l generalizing its with
  | nil =>
    match its, hl with
    | [], _ => exact .nil
  | cons c r ih =>
    match its, hl with
    | v :: ws, hl =>
      obtain ⟨d, u, h1, rfl⟩ := h 0 v rfl
      obtain rfl : c = d := Option.some.inj h1
      exact .cons ⟨u, rfl⟩ (ih (by simpa using hl) fun j v hv => h (j + 1) v hv)
theorem call_listS {X : Cx} (hc : X.calm = true) : CallR X (.type "list") rListS := by
  intro pins s σ H xs us Q I r h
  obtain ⟨l, rfl, hz, q⟩ := h
  obtain ⟨u, rfl, t, rfl⟩ := vals1 r
  have hsz : (SX.S l).cps.size = l.length := by
    show l.toArray.size = _
    simp
  refine call_list_str (I.ok.hd hc) (SX.S l) t (fun h' tk acc' c' hk hS' hacc => ?_) (by rw [hsz, sizeLine_eq]; omega)
  have hv : Vals (l.map fun c => tx [c]) acc'.toList := vals_signs (by rw [Array.length_toList, hacc.1, hsz]) fun j v hv => by
    obtain ⟨c, u, h1, h2⟩ := hacc.2 j v (by simpa using hv)
    refine ⟨c, u, ?_, h2⟩
    have h3 : l.toArray[j]? = some c := h1
    simpa using h3
  exact ⟨.ref s.heap.objs.size, _, I.laid (t' := tk) hk (Nat.le_refl _) (show ObjOk X.prog X.w _ h' _ (.lst (l.map fun c => tx [c])) from ⟨by rw [List.length_map, sizeLine_eq]; omega, acc'.toList, c', hv, by simpa using hS'⟩), rfl, q _ (I.hok.fresh (Nat.le_refl _))⟩
theorem el_listS {ta : TE} {σ : L2.St} {H : Hp} {l : List Nat} (h : Ev ta σ H (tx l)) (hz : l.length ≤ 1000) : EvL (tCB rListS (tCons ta tNil)) σ H (l.map fun c => tx [c]) := fun H1 e Q q => h H1 e _ fun H2 e2 => ⟨l, rfl, hz, fun p hp => q p _ (fresh_back e2 hp) (e2.trans (Ex.new hp)) upd_same⟩
/-! ### text[::-1], its length exactly -/
def tRevE (te : TE) : TE := fun σ H Q => te σ H fun x H1 => ∃ z : Str, x = .str z ∧ z.length ≤ sizeLine ∧ ∀ y : Str, y.cps.toList = ((List.range z.length).map fun k => z.cps.getD (z.length - 1 - k) 0) → Q (.str y) H1
theorem pe_revE {X : Cx} {e : Expr} {te : TE} {k : Nat} {p1 p2 p3 pos : Pos} (he : PE X e te) : PE X (.Subscript e (.Slice none none (some (.UnaryOp .USub (.Constant (.int 1) k p1) p2)) p3) pos) (tRevE te) := by
  refine ⟨fun pins s σ H Q I h => ?_⟩
  refine Subscript_ (thn (he.run pins s σ H _ I h) fun v s1 ⟨x, H1, I1, r1, q1⟩ => ?_)
  obtain ⟨z, ex, hz, q⟩ := q1
  subst ex
  obtain ⟨t, rfl⟩ := r1
  have hst : PO X (some (.UnaryOp .USub (.Constant (.int 1) k p1) p2)) (tPart (tUn (rU fun i => .int (-i)) (tC (.int 1)))) := po_some (pe_un un_neg pe_int)
  refine wpAny_Slice (thn (po_none.run pins s1 σ H1 (fun o H2 => o = none ∧ H2 = H1) I1 ⟨rfl, rfl⟩) fun vl s2 ⟨l, H2, I2, pl, el, e2⟩ => ?_)
  subst el e2
  refine thn (po_none.run pins s2 σ H2 (fun o H3 => o = none ∧ H3 = H2) I2 ⟨rfl, rfl⟩) fun vu s3 ⟨u, H3, I3, pu, eu, e3⟩ => ?_
  subst eu e3
  refine thn (hst.run pins s3 σ H3 (fun o H4 => o = some (-1) ∧ H4 = H3) I3 ⟨1, rfl, -1, rfl, rfl, rfl⟩) fun vs s4 ⟨o, H4, I4, ps, eo, e4⟩ => ?_
  subst eo e4
  have I5 : Inv X pins σ H4 { s4 with heap := s4.heap.push { cls := .type "slice", data := .fields #[vl, vu, vs] } } := I4.kept (t' := s4.toks) fun b ob q => Heap.get?_push_of_some _ q
  obtain ⟨l, rfl, hl⟩ := IsPart.raw pl
  obtain ⟨u, rfl, hu⟩ := IsPart.raw pu
  obtain ⟨w, rfl, hw⟩ := IsPart.raw ps
  cases l with
  | some l => cases hl
  | none =>
  cases u with
  | some u => cases hu
  | none =>
  cases w with
  | none => cases hw
  | some w =>
  obtain ⟨w1, w2⟩ := w
  have ew : w1 = -1 := by
    have : some w1 = some (-1 : Int) := hw
    exact Option.some.inj this
  subst ew
  refine tail_any (ops := [.ref s4.heap.objs.size, .str z t]) (typeIs_str _ _ _) F.slot_str_getitem.lookup ?_ (by with_unfolding_all rfl)
  refine wpAny_getItem_str_slice (l := none) (u := none) (st := some (-1, w2)) ⟨_, Heap.get?_push_size _ rfl, rfl, rfl⟩ rfl ?_
  have hc : ¬ ((((some ((-1 : Int), w2)).map (·.1)).getD 1 == 1 && (slicePicked z none none (some (-1, w2))).length == z.length) = true) := by
    have : (((some ((-1 : Int), w2)).map (·.1)).getD 1 == 1) = false := rfl
    rw [this]
    simp
  have hl := step_rev_list z w2
  have hn := step_rev_len z w2
  unfold Txt.sliceBy at hl hn
  rw [if_neg hc] at hl hn
  unfold sliceMade
  rw [if_neg hc]
  refine ⟨?_, .str _, H4, I5.tok _, ⟨_, rfl⟩, q _ hl⟩
  show (⟨((slicePicked z none none (some (-1, w2))).filterMap (z.cps[·]?)).toArray⟩ : Str).length ≤ sizeLine
  rw [hn]
  exact hz
theorem rev_list (l : List Nat) : ((List.range l.length).map fun k => l.getD (l.length - 1 - k) 0) = l.reverse := by
  refine List.ext_getElem? fun i => ?_
  by_cases c : i < l.length
  · rw [List.getElem?_map, List.getElem?_range c, List.getElem?_reverse c]
    show some (l.getD (l.length - 1 - i) 0) = _
    rw [List.getD_eq_getElem?_getD, List.getElem?_eq_getElem (show l.length - 1 - i < l.length by omega)]
    rfl
  · rw [List.getElem?_eq_none (by rw [List.length_map, List.length_range]; omega), List.getElem?_eq_none (by rw [List.length_reverse]; omega)]
theorem ev_revE {te : TE} {σ : L2.St} {H : Hp} {l : List Nat} (h : Ev te σ H (tx l)) (hz : l.length ≤ 100000) : Ev (tRevE te) σ H (tx l.reverse) := fun H1 e Q q => h H1 e _ fun H2 e2 => ⟨SX.S l, rfl, by rw [SX.S_len, sizeLine_eq]; omega, fun y hy => by
  have e3 : y.cps.toList = l.reverse := by
    rw [hy, ← rev_list l, SX.S_len]
    refine List.map_congr_left fun k _ => ?_
    show l.toArray.getD _ 0 = _
    simp [Array.getD_eq_getD_getElem?, List.getD_eq_getElem?_getD]
  have e4 : (.str y : V) = tx l.reverse := by
    rw [← e3]
  rw [e4]
  exact q H2 e2⟩
end Ver
namespace Ver
open PySem PySem.Spec PyProof.Rows L2 Evl
section
variable {K : PySem.W.Frag} {σ : L2.St} {H : Hp} {ta tb tc te tl : TE} {tz : TS} {D : Ends}
/-- a list made over a text -/
theorem el_lcS {x : List Nat} {j : Nat} {vs : List Nat} (v : Nat → V) (h : Ev tl σ H (tx x)) (hz : x.length ≤ 40000) (hw : ∀ a, wipe ((wipe σ vs).set j (some a)) vs = wipe σ vs)
    (he : ∀ (i c : Nat) H1, Ex H H1 → x[i]? = some c → Ev te ((wipe σ vs).set j (some (tx [c]))) H1 (v c)) :
    EvL (tLc (iStr tl) (gName j) tYes te vs) σ H (x.map v) := fun H0 e Q q => h H0 e _ fun H1 e1 => ⟨SX.S x, rfl, fun Dl hD => by
  have hn : (SX.S x).cps.size = x.length := by
    show x.toArray.size = _
    simp
  let g : Nat → V := fun i => v (x.getD i 0)
  refine lc_it (walk_str (z := SX.S x)) (Cw H1 (fun _ => true) g Dl) ⟨hD, Ex.new hD, upd_same⟩ (fun _ _ _ _ => trivial) (fun i z H' H2 hi p yp => ?_) (fun H' p => ?_)
  · obtain ⟨rfl, c, hc, rfl⟩ := yp
    have hc2 : x[i]? = some c := by
      have : (SX.S x).cps.toList[i]? = some c := by rw [Array.getElem?_toList]; exact hc
      exact this
    have hlt := (List.getElem?_eq_some_iff.mp hc2).1
    have eg : g i = v c := by
      show v (x.getD i 0) = v c
      rw [List.getD_eq_getElem?_getD, hc2]
      rfl
    refine ⟨hw _, cw_turn p (by omega) et_yes fun _ => ?_⟩
    rw [eg]
    exact he i c H1 (e.trans e1) hc2
  · rw [hn] at p
    have p3 := p.2.2
    rw [given_all] at p3
    have ee : (List.range x.length).map g = x.map v := by
      refine List.ext_getElem (by simp) fun i h1 h2 => ?_
      have hi : i < x.length := by simpa using h2
      rw [List.getElem_map, List.getElem_map, List.getElem_range]
      show v (x.getD i 0) = _
      rw [List.getD_eq_getElem?_getD, List.getElem?_eq_getElem hi]
      rfl
    rw [ee] at p3
    exact q Dl H' (fresh_back e1 p.1) (e1.trans p.2.1) p3⟩
/-- a call whose second argument of three is a new list -/
theorem ev_call3L {sp : Sp} {E : XK} {x y z : V} {xs dvs : List V} (h : Ev ta σ H x) (hl : EvL tl σ H xs) (h3 : ∀ H1, Ex H H1 → Ev tb σ H1 y) (hs : ∀ p H1, Ex H H1 → H1 p = some (.lst xs) → SpV sp ([x, .ref p, y] ++ dvs) H1 z) : Ev (tCall sp dvs E (tCons ta (tCons tl (tCons tb tNil)))) σ H z := fun H1 e Q q =>
  h H1 e _ fun H2 e2 => hl H2 (e.trans e2) _ fun p H3 hp e3 g3 => h3 H3 ((e.trans e2).trans e3) H3 (Ex.refl H3) _ fun H4 e4 => hs p H4 (((e.trans e2).trans e3).trans e4) (e4 _ _ g3) H4 (Ex.refl H4) Q (fun H5 e5 => q H5 (((e2.trans e3).trans e4).trans e5)) E
/-- len of a new text, parts of texts -/
theorem over_cut {al l : List Nat} {lo hi : Option Int} (h : ∀ c ∈ l, c ∈ al) : ∀ c ∈ cutL l lo hi, c ∈ al := fun c hc => h c (cutL_sub c hc)
theorem over_app {al a b : List Nat} (h1 : ∀ c ∈ a, c ∈ al) (h2 : ∀ c ∈ b, c ∈ al) : ∀ c ∈ a ++ b, c ∈ al := fun c hc => (List.mem_append.mp hc).elim (h1 c) (h2 c)
theorem over_rep {al l : List Nat} {n : Nat} (h : ∀ c ∈ l, c ∈ al) : ∀ c ∈ (List.replicate n l).flatten, c ∈ al := fun c hc => by
  obtain ⟨m, hm, hc2⟩ := List.mem_flatten.mp hc
  rw [List.eq_of_mem_replicate hm] at hc2
  exact h c hc2
theorem rep_len {l : List Nat} {n : Nat} : (List.replicate n l).flatten.length = n * l.length := by
  induction n with
  | zero => simp
  | succ n ih => rw [List.replicate_succ, List.flatten_cons, List.length_append, ih, Nat.add_mul, Nat.one_mul, Nat.add_comm]
/-- a text over al, no longer than n -/
structure Word (al : List Nat) (n : Nat) (v : List Nat) : Prop where
  over : ∀ c ∈ v, c ∈ al
  len : v.length ≤ n
theorem Word.cut {al v : List Nat} {n m : Nat} (h : ∀ c ∈ v, c ∈ al) (hm : m ≤ n) : Word al n (cutL v none (some (m : Int))) := ⟨over_cut h, by rw [cutL_to, List.length_take]; omega⟩
theorem nodup_sub : ∀ (a b : List Nat), a.Nodup → (∀ x ∈ a, x ∈ b) → a.length ≤ b.length
  | [], b, _, _ => Nat.zero_le _
  | x :: r, b, nd, h => by
    have hx := h x (List.mem_cons_self ..)
    have ih := nodup_sub r (b.erase x) (List.nodup_cons.mp nd).2 fun y hy => (List.mem_erase_of_ne (fun (e : y = x) => (List.nodup_cons.mp nd).1 (e ▸ hy))).mpr (h y (List.mem_cons_of_mem _ hy))
    have e := List.length_erase_of_mem hx
    have hp : 0 < b.length := List.length_pos_of_mem hx
    show r.length + 1 ≤ _
    omega
end
end Ver
namespace Ver
open PySem PySem.Spec PyProof.Rows L2 Evl
/-! ### pairs as data -/
def pd (r : Nat × Nat) : PyData := .tuple [.int (r.1 : Int), .str (SX.S [r.2])]
theorem pd_shaped (r : Nat × Nat) (h : r.2 < 1114112) : SeqAt.shaped (pd r) = true := by
  show (PyData.canLay0 _ && decide (PyData.depth _ ≤ 64)) = true
  have hs : PyData.strOk (SX.S [r.2]) = true := by
    unfold PyData.strOk
    simpa using h
  simp [pd, PyData.canLay0, PyData.canLayAll0, PyData.depth, PyData.depthAll, hs]
theorem pd_eqv (a b : Nat × Nat) : PyData.eqv (pd a) (pd b) = decide (a = b) := by
  obtain ⟨a1, a2⟩ := a
  obtain ⟨b1, b2⟩ := b
  show ((((a1 : Int) == (b1 : Int)) && ((SX.S [a2] == SX.S [b2]) && true)) = _)
  rw [Bool.and_true, SX.S_beq_eq, Bool.eq_iff_iff, Bool.and_eq_true, beq_iff_eq, decide_eq_true_eq, decide_eq_true_eq]
  constructor
  · rintro ⟨h1, h2⟩
    have := (List.cons.inj h2).1
    exact Prod.ext (by show a1 = b1; omega) this
  · intro h
    cases h
    exact ⟨rfl, rfl⟩
theorem pd_alike (a b : Nat × Nat) : PySem.W.alike (pd a) (pd b) = true := by
  simp [pd, PySem.W.alike, PySem.W.alikeAll]
theorem pd_lt (a b : Nat × Nat) : PySem.W.dataLt (pd a) (pd b) = rltb a b := by
  obtain ⟨a1, a2⟩ := a
  obtain ⟨b1, b2⟩ := b
  show PyProof.Rows.lexLt itemOrd (PySem.W.keyToksAll [.int (a1 : Int), .str (SX.S [a2])]) (PySem.W.keyToksAll [.int (b1 : Int), .str (SX.S [b2])]) = _
  unfold rltb
  by_cases h : a1 = b1
  · subst h
    rw [PySem.W.dataLt_all_yes (by simp [PySem.W.alike]) (by simp [PyData.eqv])]
    by_cases g : a2 = b2
    · subst g
      rw [PySem.W.dataLt_all_yes (by simp [PySem.W.alike]) (by show (SX.S [a2] == SX.S [a2]) = true; simp)]
      simp [PySem.W.keyToksAll, PyProof.Rows.lexLt, itemLt]
    · rw [PySem.W.dataLt_all_no (by simp [PySem.W.alike]) (by show (SX.S [a2] == SX.S [b2]) = false; rw [SX.S_beq_eq]; exact decide_eq_false fun q => g (List.cons.inj q).1), PySem.W.dataLt_str]
      refine decide_eq_decide.mpr ?_
      show ([a2] : List Nat) < [b2] ↔ _
      constructor
      · intro h
        cases h with
        | rel h => exact .inr ⟨rfl, h⟩
        | cons h => cases h
      · rintro (h | h)
        · exact absurd h (Nat.lt_irrefl _)
        · exact List.Lex.rel h.2
  · rw [PySem.W.dataLt_all_no (by simp [PySem.W.alike]) (by show ((a1 : Int) == (b1 : Int)) = false; simp; omega), PySem.W.dataLt_int]
    refine decide_eq_decide.mpr ?_
    show (a1 : Int) < (b1 : Int) ↔ (a1 < b1 ∨ a1 = b1 ∧ a2 < b2)
    omega
end Ver
namespace Ver
open PySem PySem.Spec PyProof.Rows L2 Evl
/-! ### == and != of like data -/
section
variable {K : PySem.W.Frag} {H : Hp}
theorem rv_isV {r : R2} {x y z z' : V} (h : RV r x y H z) (e : z = z') : RV r x y H z' := by
  rw [← e]
  exact h
theorem eqv_self {d : PyData} (h : SeqAt.shaped d = true) : PyData.eqv d d = true := SeqAt.eqv_refl _ (SeqAt.canLay_of_shaped h)
theorem rv_neSame {x y : V} {d : PyData} (h : SeqAt.shaped d = true) (h1 : ∀ H1, Ex H H1 → Dp K H1 x d) (h2 : ∀ H1, Ex H H1 → Dp K H1 y d) : RV (rNeD K) x y H (.bl false) := fun H1 e Q q =>
  ⟨d, d, h1 H1 e, h2 H1 e, h, h, by rw [eqv_self h]; exact q H1 (Ex.refl H1)⟩
theorem rv_eqSame {x y : V} {d : PyData} (h : SeqAt.shaped d = true) (h1 : ∀ H1, Ex H H1 → Dp K H1 x d) (h2 : ∀ H1, Ex H H1 → Dp K H1 y d) : RV (rEqD K) x y H (.bl true) := fun H1 e Q q =>
  ⟨d, d, h1 H1 e, h2 H1 e, h, h, by rw [eqv_self h]; exact q H1 (Ex.refl H1)⟩
theorem dp_txs : ∀ ss : List (List Nat), DpAll K H (ss.map tx) (ss.map fun s => PyData.str (SX.S s))
  | [] => .nil
  | s :: ss => .cons (.str _) (dp_txs ss)
theorem dp_row {r : Addr} {q : Nat × Nat} (h : H r = some (.tup [.int (q.1 : Int), tx [q.2]])) : Dp K H (.ref r) (pd q) := .tup (st_of h) (.cons (.int _) (.cons (.str _) .nil))
theorem dp_rows : ∀ (xs : List V) (rs : Rw), RowsAt H xs rs → DpAll K H xs (rs.map pd)
  | [], [], _ => .nil
  | [], _ :: _, h => by
    have := h.len
    cases this
  | _ :: _, [], h => by
    have := h.len
    cases this
  | x :: xs, q :: rs, h => by
    obtain ⟨r, e1, e2⟩ := h.row 0 q.1 q.2 rfl
    have : x = V.ref r := Option.some.inj e1
    subst this
    refine .cons (dp_row e2) (dp_rows xs rs ⟨by have := h.len; simpa using this, fun i p c e => ?_⟩)
    exact h.row (i + 1) p c e
theorem lay_all : ∀ ds : List PyData, (∀ d ∈ ds, PyData.canLay0 d = true) → PyData.canLayAll0 ds = true
  | [], _ => by simp [PyData.canLayAll0]
  | d :: ds, h => by
    rw [PyData.canLayAll0, h d (List.mem_cons_self ..), lay_all ds fun x hx => h x (List.mem_cons_of_mem _ hx)]
    rfl
theorem deep_all {n : Nat} : ∀ ds : List PyData, (∀ d ∈ ds, PyData.depth d ≤ n) → PyData.depthAll ds ≤ n
  | [], _ => by simp [PyData.depthAll]
  | d :: ds, h => by
    have h1 := h d (List.mem_cons_self ..)
    have h2 := deep_all ds fun x hx => h x (List.mem_cons_of_mem _ hx)
    rw [PyData.depthAll]
    omega
theorem shaped_tup {ds : List PyData} {n : Nat} (h : ∀ d ∈ ds, PyData.canLay0 d = true ∧ PyData.depth d ≤ n) (hn : n ≤ 60) : SeqAt.shaped (.tuple ds) = true := by
  show (PyData.canLay0 _ && decide (PyData.depth _ ≤ 64)) = true
  have h1 := lay_all ds fun d hd => (h d hd).1
  have h2 := deep_all (n := n) ds fun d hd => (h d hd).2
  rw [Bool.and_eq_true, decide_eq_true_eq]
  exact ⟨by rw [PyData.canLay0]; exact h1, by rw [PyData.depth]; omega⟩
theorem shaped_lst {ds : List PyData} {n : Nat} (h : ∀ d ∈ ds, PyData.canLay0 d = true ∧ PyData.depth d ≤ n) (hn : n ≤ 60) : SeqAt.shaped (.list ds) = true := by
  show (PyData.canLay0 _ && decide (PyData.depth _ ≤ 64)) = true
  have h1 := lay_all ds fun d hd => (h d hd).1
  have h2 := deep_all (n := n) ds fun d hd => (h d hd).2
  rw [Bool.and_eq_true, decide_eq_true_eq]
  exact ⟨by rw [PyData.canLay0]; exact h1, by rw [PyData.depth]; omega⟩
theorem lay_tx {s : List Nat} (h : ∀ c ∈ s, c < 1114112) : PyData.canLay0 (.str (SX.S s)) = true ∧ PyData.depth (.str (SX.S s)) ≤ 0 := by
  have hs : PyData.strOk (SX.S s) = true := by
    unfold PyData.strOk
    show s.toArray.all _ = true
    simpa using h
  exact ⟨by simp [PyData.canLay0, hs], by simp [PyData.depth]⟩
theorem lay_pd {r : Nat × Nat} (h : r.2 < 1114112) : PyData.canLay0 (pd r) = true ∧ PyData.depth (pd r) ≤ 1 := by
  have hs := (lay_tx (s := [r.2]) fun c hc => by rw [List.mem_singleton.mp hc]; exact h).1
  rw [PyData.canLay0] at hs
  constructor
  · simp [pd, PyData.canLay0, PyData.canLayAll0, hs]
  · simp [pd, PyData.depth, PyData.depthAll]
theorem Alf.uni {al : List Nat} (A : Alf al) {c : Nat} (h : c ∈ al) : c < 1114112 := by
  have := A.let' c h
  omega
/-- two tuples of the same rows -/
theorem rv_neRows {p q : Addr} {xs ys : List V} {rs : Rw} {al : List Nat} (A : Alf al) (hr : ∀ r ∈ rs, r.2 ∈ al) (h1 : H p = some (.tup xs)) (h2 : RowsAt H xs rs) (h3 : H q = some (.tup ys)) (h4 : RowsAt H ys rs) : RV (rNeD K) (.ref p) (.ref q) H (.bl false) :=
  rv_neSame (d := .tuple (rs.map pd)) (shaped_tup (n := 1) (fun d hd => by
    obtain ⟨r, hr', rfl⟩ := List.mem_map.mp hd
    exact lay_pd (A.uni (hr r hr'))) (by decide)) (fun H1 e => .tup (st_of (e _ _ h1)) (dp_rows _ _ (h2.mono e))) fun H1 e => .tup (st_of (e _ _ h3)) (dp_rows _ _ (h4.mono e))
/-- two tuples of the same texts -/
theorem rv_neTxs {p q : Addr} {ss : List (List Nat)} {al : List Nat} (A : Alf al) (hr : ∀ s ∈ ss, ∀ c ∈ s, c ∈ al) (h1 : H p = some (.tup (ss.map tx))) (h2 : H q = some (.tup (ss.map tx))) : RV (rNeD K) (.ref p) (.ref q) H (.bl false) :=
  rv_neSame (d := .tuple (ss.map fun s => PyData.str (SX.S s))) (shaped_tup (n := 0) (fun d hd => by
    obtain ⟨s, hs, rfl⟩ := List.mem_map.mp hd
    exact lay_tx fun c hc => A.uni (hr s hs c hc)) (by decide)) (fun H1 e => .tup (st_of (e _ _ h1)) (dp_txs _)) fun H1 e => .tup (st_of (e _ _ h2)) (dp_txs _)
/-- two lists of the same ints -/
theorem rv_eqInts {p q : Addr} {ns : List Int} (h1 : SqL K H p (ns.map V.int)) (h2 : SqL K H q (ns.map V.int)) : RV (rEqD K) (.ref p) (.ref q) H (.bl true) :=
  rv_eqSame (d := .list (ns.map PyData.int)) (shaped_list_of_ints ns) (fun H1 e => .lst (ex_l e h1) (dp_ints ns)) fun H1 e => .lst (ex_l e h2) (dp_ints ns)
end
end Ver
namespace Ver
open PySem PySem.Spec PyProof.Rows L2 Evl
/-! ### promises of defs that ask what is under way (repr): kept where no guard is under way -/
structure FnG (P : Program) (w : World) (K : PySem.W.Frag) (mg : Str → Option Value) (bs : Heap) (C : CXT) (k : Nat) (f : Addr)
    (fd : FuncData) (ps : List Str) (sp : Sp) : Prop where
  lens : ∀ vs H Q E, sp vs H Q E → vs.length = ps.length
  runs : ∀ (A : Around) (ou : List Env) (s : Shared) (H : Hp) (ar : Args) (us : List Value) (vs : List V) (Q : VK) (E : XK),
    A.guards = some [] → Room k A → Env0 P w K mg bs A ou s H → BindsTo s fd ar (ps.zip us) → Vals vs us → sp vs H Q E →
      codeAny (model P w) A (.call (.ref f) ar) (CR C ou P w H s Q E) s
section
variable {P : Program} {w : World} {K : PySem.W.Frag} {mg : Str → Option Value} {bs : Heap} {C : CXT} {k : Nat} {f : Addr} {fd : FuncData} {ps : List Str} {sp : Sp}
theorem FnG.of (F : FnOk P w K mg bs C k f fd ps sp) : FnG P w K mg bs C k f fd ps sp :=
  ⟨F.len, fun A ou s H ar us vs Q E _ => F.run A ou s H ar us vs Q E⟩
theorem FnG.more {j : Nat} (F : FnG P w K mg bs C j f fd ps sp) (h : j ≤ k) : FnG P w K mg bs C k f fd ps sp :=
  ⟨F.lens, fun A ou s H ar us vs Q E g r => F.runs A ou s H ar us vs Q E g (r.mono h)⟩
/-- a def by its body, no guard under way -/
theorem fng_of {nm ql : Str} {pa : Arguments} {bd : List Stmt} {sc : Scope} {dV kV dc pm cdv ct oc : Value} {an od : Option Addr} {sl : Array (Option Value)} {N : List Str}
    (at_ : K.lookup f = some ⟨oc, od, .func (PySem.W.fnOf nm ql pa bd sc dV kV dc pm an cdv ct), sl⟩) (co : PySem.W.codeIn K cdv ql = true) (S : FnScope N ps sc)
    (ln : ∀ vs H Q E, sp vs H Q E → vs.length = ps.length)
    (body : ∀ (A : Around) (ou : List Env) (s : Shared) (H : Hp) (vs : List V) (Q : VK) (E : XK), A.guards = some [] →
      Room k (A.deeper (envOfC ql sc s.heap.objs.size f cdv)) → sp vs H Q E →
      ∃ t, PSs (cxOf C P w K mg bs N ql sc f cdv A ou s H E) bd t ∧ t { nx := fun _ H' => Q .non H', rt := Q } (L2.start N vs) H) :
    FnG P w K mg bs C (k + 1) f (PySem.W.fnOf nm ql pa bd sc dV kV dc pm an cdv ct) ps sp := by
  refine ⟨ln, fun A ou s H ar us vs Q E g room env binds vals said => ?_⟩
  have inK : K.In s.heap := env.mod.kin.keeps fun b o e => (env.bs b o e).1
  have noLim : s.heap.NoLimit := env.mod.nolimit.keeps fun b o e => (env.bs b o e).1
  have places : ∀ y ∈ ps.zip us, sc.names.lookup y.1 = some .local ∨
      (sc.names.lookup y.1 = some .cell ∧ ((cellsFrom (s.heap.objs.size + 1) sc.names []).lookup y.1).isSome = true) := by
    rintro ⟨n, v⟩ hy
    rcases S.par n (List.of_mem_zip hy).1 with q | q
    · exact Or.inl q
    · exact Or.inr ⟨q, PySem.W.cellsFrom_some _ _ _ (.inl q)⟩
  refine codeAny_call_function room.depth (inK _ _ at_) rfl S.co S.gen rfl (PySem.W.codeRec_of inK co) (binds _ _ _ _ ?_)
  refine wpAny_newFunctionEnv_cells S.kind places ?_
  rintro en rfl s1 x
  refine ⟨noLim.keeps x.toInCall.keep, codeAny_func ?_⟩
  obtain ⟨t, ht, hq⟩ := body A ou s H vs Q E g (room.deeper _) said
  have inv := inv_start (CX := C) (E := E) S room.hd env (ln _ _ _ _ said) vals x
  refine wpAny_mono (ht.run [] s1 (L2.start N vs) H _ inv hq) ?_ (fun e s' hs => hs)
  intro fl s' hs
  cases fl with
  | brk =>
    obtain ⟨_, _, _, z⟩ := hs
    exact z.elim
  | cont =>
    obtain ⟨_, _, _, z⟩ := hs
    exact z.elim
  | next =>
    obtain ⟨σ', H', J, q⟩ := hs
    exact ⟨V.non, H', J.os, J.bare, J.base, J.hok, rfl, q⟩
  | ret u =>
    obtain ⟨y, σ9, H9, J, rv, z⟩ := hs
    exact ⟨y, H9, J.os, J.bare, J.base, J.hok, rv, z⟩
/-- as ok of the layer, no guard under way -/
theorem okG {x ql : Str} {st : Stmt} {N : List Str} (F : Fun K x ql st f fd) (S : FnScope N ps (defScope st)) (ln : ∀ vs H Q E, sp vs H Q E → vs.length = ps.length)
    (body : ∀ (cdv : Value) (A : Around) (ou : List Env) (s : Shared) (H : Hp) (vs : List V) (Q : VK) (E : XK), A.guards = some [] →
      Room k (A.deeper (envOfC ql (defScope st) s.heap.objs.size f cdv)) → sp vs H Q E →
      ∃ t, PSs (cxOf CX0 P w K mg bs N ql (defScope st) f cdv A ou s H E).nox (defBody st) t ∧ t { nx := fun _ H' => Q .non H', rt := Q } (L2.start N vs) H) :
    FnG P w K mg bs CX0 (k + 1) f fd ps sp := by
  obtain ⟨_, _, _, _, _, _, cdv, _, _, rfl, lk, hc⟩ := F.ex
  refine fng_of lk hc S ln fun A ou s H vs Q E g room said => ?_
  obtain ⟨t, ht, q⟩ := body cdv A ou s H vs Q E g room said
  exact ⟨t, ht.nox, q⟩
end
def HasG (P : Program) (w : World) (K : PySem.W.Frag) (mg : Str → Option Value) (bs : Heap) (x : Str) (st : Stmt) (ps : List Str) (k : Nat) (sp : Sp) : Prop :=
  ∃ f fd, Fun K x x st f fd ∧ FnG P w K mg bs CX0 k f fd ps sp ∧ Binds K fd ps [] ∧ mg x = some (.ref f) ∧ PySem.W.keepIn K (.ref f) = true
section
variable {X : Cx} {C : CXT} {k : Nat} {f : Addr} {fd : FuncData} {ps : List Str} {sp : Sp} {dvs : List V} {ds : List Value} {E : XK} {x : Str} {p pos : Pos} {e : Expr} {es : List Expr} {t : TA}
/-- a call of such a def, out of a body with no guard under way -/
theorem pe_callG (g : X.A.guards = some []) (F : FnG X.prog X.w X.K X.mg X.base C k f fd ps sp) (room : Room k X.A) (hg : Gl X x) (hm : X.mg x = some (.ref f)) (hk : PySem.W.keepIn X.K (.ref f) = true)
    (hb : Binds X.K fd ps ds) (hd : Vals dvs ds) (hx : Passes C X E) (ha : PA X (e :: es) t) (nd : (x == ("__debug__" : Str)) = false := by decide)
    (h1 : starEach (e :: es) X.env = (false, eval e X.env) :: starEach es X.env := by rfl) (h2 : (backTo pos (starEach es X.env)).any (·.1) = false := by rfl) :
    PE X (.Call (.Name x p) (e :: es) [] pos) (tCall sp dvs E t) := ⟨fun pins s σ H Q I h => by
  refine wpAny_Call_Name_kw (ld_glob I hg hm ?_ nd)
  refine PySem.W.callWith_K (h₀ := X.base) I.ok.mod.kin hk (thn (ha.run pos pins s σ H _ I h) ?_) h1 h2
  rintro us s1 ⟨vs, H1, I1, r, q⟩
  refine ⟨I1.kIn, ?_⟩
  have r2 : Vals (vs ++ dvs) (us ++ ds) := r.append hd
  have l2 : (us ++ ds).length = ps.length := r2.length.symm.trans (F.lens _ _ _ _ q)
  refine wpAny_call (codeAny_mono (F.runs X.A X.stack s1 H1 ⟨us, []⟩ (us ++ ds) (vs ++ dvs) Q E g room I1.env0 (hb s1 us I1.kIn l2) r2 q) ?_)
  intro r s' hq
  match r, hq with
  | .error e, hq => exact hx pins σ H1 s1 e s' I1 hq
  | .ok (.ret u), hq => exact I1.after hq⟩
/-! ### repr of data -/
theorem call_reprD (g : X.A.guards = some []) (hu : X.A.units + 64 < cLine) : CallR X (.builtin "repr") (fun xs H Q => ∃ (a : Addr) (d : PyData), xs = [.ref a] ∧ Dp X.K H (.ref a) d ∧ d.showable = true ∧ d.hasDict = false ∧ d.depth ≤ 20 ∧ d.shown.length ≤ sizeLine ∧ Q (.str d.shown) H) := by
  intro pn s σ H xs us Q I r h
  obtain ⟨a, d, rfl, hd, hs, hn, hp, hz, q⟩ := h
  match us, r with
  | [u], .cons r1 .nil =>
    cases r1
    obtain ⟨as, rd⟩ := Dp.reads I d _ _ hd rfl
    refine repr_of_reads' rd hs (fun z => by rw [hn] at z; cases z) g (by omega) (fun _ _ z => z) (fun h' u tk keep => ?_) hz
    exact ⟨.str d.shown, H, I.kept keep, ⟨u, rfl⟩, q⟩
end
end Ver
namespace Ver
open PySem PySem.Spec PyProof.Rows L2 Evl
theorem hu65 {A : Around} {k : Nat} (hr : Room k A) : A.units + 65 < cLine := by
  have := hr.un
  omega
/-- n.f, n the error at a, of a class that the state tells -/
def tXpS (K : PySem.W.Frag) (a : Addr) (cls : Value) (d : Option Addr) (f : Str) (te : TE) : TE := fun σ H Q => te σ H fun x H1 => x = .ref a ∧ ∃ (C dd : Addr) (fs : List (Str × V)) (v : V), cls = .ref C ∧ XfC K C ∧ PySem.W.findIn K (.ref C) f = some none ∧ d = some dd ∧ H1 dd = some (.xd fs) ∧ fs.lookup f = some v ∧ Q v H1
theorem pe_xpS {X : Cx} {K : PySem.W.Frag} {p : Addr × Obj} {a : Addr} {cls : Value} {d : Option Addr} {e : Expr} {te : TE} {pos : Pos} {n : Str} (ek : X.K = K) (ea : p.1 = a) (hp : p ∈ X.pn)
    (hz : Zc cls d p.2) (hf : ∃ vs, p.2.data = .fields vs) (he : PE X e te) (hb : attributeBase e n X.env (eval e X.env) = eval e X.env := by rfl) : PE X (.Attribute e n pos) (tXpS K a cls d n te) := by
  subst ea
  subst ek
  refine ⟨fun pins s σ H Q I h => ?_⟩
  refine attr_of hb (thn (he.run pins s σ H _ I h) fun u s1 hh => ?_)
  obtain ⟨x, H1, I1, rx, ex, C, dd, fs, v, ec, T, hno, ed, ea, l, q⟩ := hh
  subst ex
  obtain rfl : u = Value.ref p.1 := rx
  subst ec
  subst ed
  obtain ⟨ha, _⟩ := I1.pin p (List.mem_append_left _ hp)
  obtain ⟨vs, hd⟩ := hf
  have hx : ObjOk X.prog X.w H1 s1.heap dd (.xd fs) := I1.hok dd _ ea
  obtain ⟨mA, hns, hr⟩ := hx
  obtain ⟨od, ho, hl⟩ := lookIn_ns hns
  obtain ⟨u, hu, ru⟩ := RelO.some_of (v := v) (o := mA n) (by rw [← l]; exact hr n)
  have J : PySem.W.InstAt s1.heap p.1 p.2 C (some od) := ⟨ha, hz.1, by unfold PySem.W.notCls; rw [hd] <;> rfl, by rw [hz.2]; exact ho⟩
  exact HandSPX.exc_get I1.kIn J T.ga T.gg T.exC (PySem.W.findObj_own T.hdC hno rfl (by rw [hl, hu])) (handed_of ru) ⟨v, H1, I1.tok _, ru, q⟩
section
variable {K : PySem.W.Frag} {σ : L2.St} {H : Hp} {te : TE}
theorem ev_xpS {a C dd : Addr} {cls : Value} {d : Option Addr} {fs : List (Str × V)} {f : Str} {v : V} (h : Ev te σ H (.ref a)) (hc : cls = .ref C) (x : XfC K C) (hn : PySem.W.findIn K (.ref C) f = some none) (hd : d = some dd) (hx : H dd = some (.xd fs)) (hl : fs.lookup f = some v) : Ev (tXpS K a cls d f te) σ H v := fun H1 e Q q =>
  h H1 e _ fun H2 e2 => ⟨rfl, C, dd, fs, v, hc, x, hn, hd, (e.trans e2) _ _ hx, hl, q H2 e2⟩
end
theorem call_isiK {X : Cx} {K : PySem.W.Frag} (ek : X.K = K) : CallR X (.builtin "isinstance") (rIsi K) := by
  subst ek
  exact call_isi
theorem call_listK {X : Cx} {K : PySem.W.Frag} (ek : X.K = K) : CallR X (.type "list") (fun xs H Q => ∃ p ys, xs = [.ref p] ∧ (SqL K H p ys ∨ SqT K H p ys) ∧ ∀ l, H l = none → Q (.ref l) (upd H l (.lst ys))) := by
  subst ek
  exact call_list_of
/-! ### repr of a text -/
theorem call_reprS {X : Cx} (g : X.A.guards = some []) (hu : X.A.units + 64 < cLine) : CallR X (.builtin "repr") (fun xs H Q => ∃ z : Str, xs = [.str z] ∧ (reprText z).length ≤ sizeLine ∧ Q (.str (reprText z)) H) := by
  intro pn s σ H xs us Q I r h
  obtain ⟨z, rfl, hz, q⟩ := h
  obtain ⟨u, rfl, t, rfl⟩ := vals1 r
  exact PySem.P.repr_of_str ⟨.str _, H, I.tok _, ⟨_, rfl⟩, q⟩ hz
theorem ev_reprS {σ : L2.St} {H : Hp} {ta : TE} {s : List Nat} (h : Ev ta σ H (tx s)) (hs : ∀ c ∈ s, c < 1114112) (hz : s.length ≤ 9000) : Ev (tCB (fun xs H Q => ∃ z : Str, xs = [.str z] ∧ (reprText z).length ≤ sizeLine ∧ Q (.str (reprText z)) H) (tCons ta tNil)) σ H (.str (reprText (SX.S s))) := fun H1 e Q q =>
  h H1 e _ fun H2 e2 => ⟨SX.S s, rfl, by
    have h1 := StrLaws.reprText_len (SX.S s) (by
      intro c hc
      have : c ∈ s := by simpa using hc
      have := hs c this
      omega)
    have h2 : (SX.S s).length = s.length := by rw [SX.S_len]
    have : sizeLine = 16777216 := by decide
    omega, q H2 e2⟩
/-! ### str of a bit -/
theorem str_bit {b : Nat} (h : b < 2) : (toString (b : Int) : Str) = SX.S [48 + b] := by
  match b, h with
  | 0, _ => decide +kernel
  | 1, _ => decide +kernel
theorem ev_strBit {σ : L2.St} {H : Hp} {ta : TE} {b : Nat} (hb : b < 2) (h : Ev ta σ H (.int (b : Int))) : Ev (tCB (fun xs H Q => ∃ i : Int, xs = [.int i] ∧ i.natAbs.log2 < 1920 ∧ Q (.str (toString i)) H) (tCons ta tNil)) σ H (tx [48 + b]) := fun H1 e Q q =>
  h H1 e _ fun H2 e2 => ⟨(b : Int), rfl, by
    match b, hb with
    | 0, _ => decide +kernel
    | 1, _ => decide +kernel, by rw [str_bit hb]; exact q H2 e2⟩
/-! ### long texts joined -/
theorem join_okB {K : PySem.W.Frag} {H : Hp} {p : Addr} {ps : List (List Nat)} (hp : SqL K H p (ps.map tx) ∨ SqT K H p (ps.map tx)) (hz : ps.flatten.length ≤ 1000000) {Q : VK} (q : Q (tx ps.flatten) H) : rJoin K (tx []) [.ref p] H Q := by
  refine ⟨SX.S [], p, ps.map SX.S, rfl, rfl, by rw [← map_tx]; exact hp, ?_, ?_⟩
  · rw [sum_lens, SX.S_len]
    have : sizeLine = 16777216 := by decide
    show _ + _ * 0 ≤ _
    omega
  · rw [join_flat]
    exact q
section
variable {K : PySem.W.Frag} {σ : L2.St} {H : Hp} {ta tb : TE}
theorem ev_joinB {p : Addr} {ps : List (List Nat)} (ha : Ev ta σ H (tx [])) (hb : Ev tb σ H (.ref p)) (hp : SqL K H p (ps.map tx) ∨ SqT K H p (ps.map tx)) (hz : ps.flatten.length ≤ 1000000) : Ev (tM1 (rJoin K) ta tb) σ H (tx ps.flatten) := fun H1 e Q q =>
  ha H1 e _ fun H2 e2 => ⟨⟨_, rfl⟩, hb H2 (e.trans e2) _ fun H3 e3 => join_okB (hp.elim (fun h => .inl (ex_l ((e.trans e2).trans e3) h)) (fun h => .inr (ex_t ((e.trans e2).trans e3) h))) hz (q H3 (e2.trans e3))⟩
theorem ev_joinLB {ps : List (List Nat)} (ha : Ev ta σ H (tx [])) (hb : EvL tb σ H (ps.map tx)) (hz : ps.flatten.length ≤ 1000000) : Ev (tM1 (rJoin K) ta tb) σ H (tx ps.flatten) := fun H1 e Q q =>
  ha H1 e _ fun H2 e2 => ⟨⟨_, rfl⟩, hb H2 (e.trans e2) _ fun p H3 _ e3 h3 => join_okB (.inl (sq_of h3)) hz (q H3 (e2.trans e3))⟩
end
end Ver
namespace Ver
open PySem PySem.Spec PyProof.Rows L2 Evl
/-! ### sorted(text) -/
theorem strs_signs : ∀ {vs : List Value} {l : List Nat}, vs.length = l.length → (∀ (j : Nat) (v : Value), vs[j]? = some v → ∃ c u, l[j]? = some c ∧ v = .str (SX.S [c]) u) → StrsAre vs (l.map fun c => SX.S [c])
  | [], [], _, _ => .nil
  | [], _ :: _, h, _ => by simp at h
  | _ :: _, [], h, _ => by simp at h
  | v :: vs, c :: l, h, k => by
    obtain ⟨d, u, h1, rfl⟩ := k 0 v rfl
    cases Option.some.inj h1
    exact .cons _ u (strs_signs (by simpa using h) fun j w hw => k (j + 1) w hw)
theorem sorted_sg {P : Program} {w : World} {A : Around} {E : Value → Shared → Prop} {s : Shared} {l : List Nat} {t : Tok} {Q : Value → Shared → Prop} (hh : A.handled = none) (h64 : l.length < 64)
    (hQ : ∀ s' p (out : Array Value) (c : Nat) (ys : List Str), (∀ b o, s.heap.get? b = some o → s'.heap.get? b = some o) → s'.gens = s.gens → s'.os = s.os → s.heap.get? p = none →
      s'.heap.get? p = some (seqObj "list" out c) → StrsAre out.toList ys → ys.Perm (l.map fun c => SX.S [c]) → sortedS ys = true → Q (.ref p) s') :
    wpAny (model P w) A (call (.builtin "sorted") [.str (SX.S l) t]) Q E s := by
  have hsz : (SX.S l).cps.size = l.length := by
    show l.toArray.size = _
    simp
  refine Calls.call_function_entry kind_sorted plain_sorted entry_sorted (args_sorted1 _) ?_
  unfold Builtin.«sorted»
  refine wpAny_bind (m := checkCount "sorted" 1 1 _) (wpAny_pure ?_)
  refine wpAny_bind (wpAny_collect_str (A := A.in1) hh (SX.S l) t (fun s1 acc k1 g1 d1 o1 hacc => ?_) (by rw [hsz, sizeLine_eq]; omega))
  have hl : acc.toList.length = l.length := by rw [Array.length_toList, hacc.1, hsz]
  have hI : StrsAre acc.toList (l.map fun c => SX.S [c]) := strs_signs hl fun j v hv => by
    obtain ⟨c, u, h1, h2⟩ := hacc.2 j v (by simpa using hv)
    have h3 : l.toArray[j]? = some c := h1
    exact ⟨c, u, by simpa using h3, h2⟩
  have hz : s.heap.get? s1.heap.objs.size = none := by
    cases e : s.heap.get? s1.heap.objs.size with
    | none => rfl
    | some u => exact absurd (Heap.lt_size (k1 _ _ e)) (Nat.lt_irrefl _)
  refine wpAny_bind (wpAny_newList ?_ (by rw [hl, sizeLine_eq]; omega))
  have hoL : (s1.heap.push (seqObj "list" acc.toList.toArray 0)).get? s1.heap.objs.size = some (seqObj "list" acc.toList.toArray 0) := Heap.get?_push_size _ rfl
  refine wpAny_bind (wpAny_holding (wpAny_call_entry slot_list_sort ⟨_, hoL, rfl⟩ entry_list_sort (list_sort_treeK strKind_oneLt hoL hI.keysOf (fun v1 v2 rest e => keyKind_strs (by rw [← e]; exact hI)) (by rw [hl]; exact h64) fun st' hp hs => ⟨_, rfl, ?_⟩) (args_list_sort _)))
  obtain ⟨ss', a1, a2, a3⟩ := sorted_out_str hI hp hs
  obtain ⟨c, hc⟩ := sortedHeap_at (vs := acc.toList) (out := (arrOf st').map (·.2)) hoL
  refine wpAny_pure ⟨_, rfl, hQ _ s1.heap.objs.size _ c ss' (fun b u e => ?_) g1 o1 hz hc a1 a2 a3⟩
  have q := k1 b u e
  have hlt := Heap.lt_size q
  show (sortedHeap (s1.heap.push (seqObj "list" acc.toList.toArray 0)) s1.heap.objs.size acc.toList _).get? b = some u
  rw [sortedHeap_old (Nat.ne_of_lt hlt) (by rw [size_push']; exact Nat.lt_succ_of_lt hlt)]
  exact Heap.get?_push_of_some _ q
def rSortSg : List V → Hp → VK → Prop := fun vs H Q => ∃ l : List Nat, vs = [tx l] ∧ l.length < 64 ∧ ∀ (ys : List Str) (p : Addr), ys.Perm (l.map fun c => SX.S [c]) → sortedS ys = true → H p = none → Q (.ref p) (upd H p (.lst (ys.map V.str)))
theorem call_sortedSg {X : Cx} (hc : X.calm = true) : CallR X (.builtin "sorted") rSortSg := by
  intro pins s σ H vs us Q I r h
  obtain ⟨l, rfl, h64, q⟩ := h
  obtain ⟨u, rfl, t, rfl⟩ := vals1 r
  refine sorted_sg (I.ok.hd hc) h64 fun s' p out c ys k g o hp hg hi pm hs => ?_
  have hlen : (ys.map V.str).length ≤ sizeLine := by rw [List.length_map, pm.length_eq, List.length_map, sizeLine_eq]; omega
  have hn : H p = none := I.hok.gone hp
  have J : Inv X pins σ (upd H p (.lst (ys.map V.str))) { s with heap := s'.heap, gens := s'.gens, drawn := s'.drawn, toks := s'.toks } :=
    I.call (ch := []) (Un.laidN k hp hn) (I.hok.laidN k hn ⟨hlen, out.toList, c, vals_of_strs hi, hg⟩) (by rw [g]; exact I.bare) (fun _ z => nomatch z)
  have e : s' = { s with heap := s'.heap, gens := s'.gens, drawn := s'.drawn, toks := s'.toks } := by
    cases s'
    cases s
    cases o
    rfl
  rw [e]
  exact ⟨.ref p, _, J, rfl, q ys p pm hs hn⟩
/-! ### a list made over a text, with a condition -/
section
variable {K : PySem.W.Frag} {σ : L2.St} {H : Hp} {te tl : TE} {t : TT}
theorem range_getD (x : List Nat) : (List.range x.length).map (fun i => x.getD i 0) = x := by
  refine List.ext_getElem (by simp) fun i h1 h2 => ?_
  rw [List.getElem_map, List.getElem_range, List.getD_eq_getElem?_getD, List.getElem?_eq_getElem h2]
  rfl
theorem given_filter (x : List Nat) (f : Nat → Bool) (v : Nat → V) : given x.length (fun i => f (x.getD i 0)) (fun i => v (x.getD i 0)) = (x.filter f).map v := by
  have e : x.filter f = ((List.range x.length).map fun i => x.getD i 0).filter f := by rw [range_getD]
  rw [e, List.filter_map, List.map_map]
  rfl
theorem el_lcSF {x : List Nat} {j : Nat} {vs : List Nat} (f : Nat → Bool) (v : Nat → V) (h : Ev tl σ H (tx x)) (hz : x.length ≤ 40000) (hw : ∀ a, wipe ((wipe σ vs).set j (some a)) vs = wipe σ vs)
    (ht : ∀ (i c : Nat) H1, Ex H H1 → x[i]? = some c → EvT t ((wipe σ vs).set j (some (tx [c]))) H1 (f c))
    (he : ∀ (i c : Nat) H1, Ex H H1 → x[i]? = some c → Ev te ((wipe σ vs).set j (some (tx [c]))) H1 (v c)) :
    EvL (tLc (iStr tl) (gName j) t te vs) σ H ((x.filter f).map v) := fun H0 e Q q => h H0 e _ fun H1 e1 => ⟨SX.S x, rfl, fun Dl hD => by
  have hn : (SX.S x).cps.size = x.length := by
    show x.toArray.size = _
    simp
  refine lc_it (walk_str (z := SX.S x)) (Cw H1 (fun i => f (x.getD i 0)) (fun i => v (x.getD i 0)) Dl) ⟨hD, Ex.new hD, upd_same⟩ (fun _ _ _ _ => trivial) (fun i z H' H2 hi p yp => ?_) (fun H' p => ?_)
  · obtain ⟨rfl, c, hc, rfl⟩ := yp
    have hc2 : x[i]? = some c := by
      have : (SX.S x).cps.toList[i]? = some c := by rw [Array.getElem?_toList]; exact hc
      exact this
    have hlt := (List.getElem?_eq_some_iff.mp hc2).1
    have eg : x.getD i 0 = c := by
      rw [List.getD_eq_getElem?_getD, hc2]
      rfl
    refine ⟨hw _, cw_turn p (by omega) ?_ fun _ => ?_⟩
    · rw [eg]
      exact ht i c H1 (e.trans e1) hc2
    · rw [eg]
      exact he i c H1 (e.trans e1) hc2
  · rw [hn] at p
    have p3 := p.2.2
    rw [given_filter] at p3
    exact q Dl H' (fresh_back e1 p.1) (e1.trans p.2.1) p3⟩
end
theorem rv_niSign {c : Nat} {l : List Nat} {H : Hp} : RV (fun x y H Q => ∃ (c : Nat) (z : Str), x = .str ⟨#[c]⟩ ∧ y = .str z ∧ Q (.bl (!decide (c ∈ z.cps.toList))) H) (tx [c]) (tx l) H (.bl (!decide (c ∈ l))) := fun H1 _ Q q => ⟨c, SX.S l, rfl, rfl, by
  have e : (SX.S l).cps.toList = l := by
    show l.toArray.toList = l
    simp
  rw [e]
  exact q H1 (Ex.refl H1)⟩
end Ver
namespace Ver
open PySem PySem.Spec PyProof.Rows L2 Evl
def top (i : Nat) : Stmt := PySem.Challenge.pw_outpressed_k03_block_whole.main.body.getD i (.Pass ⟨0, 0, 0, 0⟩)
abbrev s_BadAlphabet___init__ : Stmt := inClass (top 3) 0
abbrev N_BadAlphabet___init__ : List Str := ["self", "alphabet"]
theorem S_BadAlphabet___init__ : FnScope N_BadAlphabet___init__ ["self", "alphabet"] (defScope s_BadAlphabet___init__) := ⟨rfl, rfl, rfl, by decide +kernel, rfl, by decide +kernel, by decide +kernel⟩
abbrev s_BadLetter___init__ : Stmt := inClass (top 4) 0
abbrev N_BadLetter___init__ : List Str := ["self", "index"]
theorem S_BadLetter___init__ : FnScope N_BadLetter___init__ ["self", "index"] (defScope s_BadLetter___init__) := ⟨rfl, rfl, rfl, by decide +kernel, rfl, by decide +kernel, by decide +kernel⟩
abbrev s_is_alphabet : Stmt := top 30
abbrev N_is_alphabet : List Str := ["string", "one", "two"]
theorem S_is_alphabet : FnScope N_is_alphabet ["string"] (defScope s_is_alphabet) := ⟨rfl, rfl, rfl, by decide +kernel, rfl, by decide +kernel, by decide +kernel⟩
abbrev s_is_letter : Stmt := top 31
abbrev N_is_letter : List Str := ["alphabet", "value"]
theorem S_is_letter : FnScope N_is_letter ["alphabet", "value"] (defScope s_is_letter) := ⟨rfl, rfl, rfl, by decide +kernel, rfl, by decide +kernel, by decide +kernel⟩
abbrev s_check_alphabet : Stmt := top 32
abbrev N_check_alphabet : List Str := ["alphabet"]
theorem S_check_alphabet : FnScope N_check_alphabet ["alphabet"] (defScope s_check_alphabet) := ⟨rfl, rfl, rfl, by decide +kernel, rfl, by decide +kernel, by decide +kernel⟩
abbrev s_check_text : Stmt := top 33
abbrev N_check_text : List Str := ["alphabet", "text", "rest"]
theorem S_check_text : FnScope N_check_text ["alphabet", "text"] (defScope s_check_text) := ⟨rfl, rfl, rfl, by decide +kernel, rfl, by decide +kernel, by decide +kernel⟩
abbrev s_is_whole : Stmt := top 35
abbrev N_is_whole : List Str := ["value"]
theorem S_is_whole : FnScope N_is_whole ["value"] (defScope s_is_whole) := ⟨rfl, rfl, rfl, by decide +kernel, rfl, by decide +kernel, by decide +kernel⟩
abbrev s_is_number_below : Stmt := top 36
abbrev N_is_number_below : List Str := ["value", "many"]
theorem S_is_number_below : FnScope N_is_number_below ["value", "many"] (defScope s_is_number_below) := ⟨rfl, rfl, rfl, by decide +kernel, rfl, by decide +kernel, by decide +kernel⟩
abbrev s_as_tuples : Stmt := top 37
abbrev N_as_tuples : List Str := ["value", "item"]
theorem S_as_tuples : FnScope N_as_tuples ["value"] (defScope s_as_tuples) := ⟨rfl, rfl, rfl, by decide +kernel, rfl, by decide +kernel, by decide +kernel⟩
abbrev s_Cut___init__ : Stmt := inClass (top 39) 0
abbrev N_Cut___init__ : List Str := ["self", "alphabet", "rows", "tail", "kept"]
theorem S_Cut___init__ : FnScope N_Cut___init__ ["self", "alphabet", "rows", "tail"] (defScope s_Cut___init__) := ⟨rfl, rfl, rfl, by decide +kernel, rfl, by decide +kernel, by decide +kernel⟩
abbrev s_check_rows : Stmt := top 40
abbrev N_check_rows : List Str := ["alphabet", "rows", "earlier", "index", "row", "parent", "letter"]
theorem S_check_rows : FnScope N_check_rows ["alphabet", "rows"] (defScope s_check_rows) := ⟨rfl, rfl, rfl, by decide +kernel, rfl, by decide +kernel, by decide +kernel⟩
abbrev s_pieces_of : Stmt := top 41
abbrev N_pieces_of : List Str := ["rows", "pieces", "parent", "letter"]
theorem S_pieces_of : FnScope N_pieces_of ["rows"] (defScope s_pieces_of) := ⟨rfl, rfl, rfl, by decide +kernel, rfl, by decide +kernel, by decide +kernel⟩
abbrev s_starts_of : Stmt := top 42
abbrev N_starts_of : List Str := ["pieces", "starts", "place", "piece"]
theorem S_starts_of : FnScope N_starts_of ["pieces"] (defScope s_starts_of) := ⟨rfl, rfl, rfl, by decide +kernel, rfl, by decide +kernel, by decide +kernel⟩
abbrev s_cut_of : Stmt := top 43
abbrev N_cut_of : List Str := ["alphabet", "text", "numbers", "rows", "piece", "letter", "row"]
theorem S_cut_of : FnScope N_cut_of ["alphabet", "text"] (defScope s_cut_of) := ⟨rfl, rfl, rfl, by decide +kernel, rfl, by decide +kernel, by decide +kernel⟩
abbrev s_width : Stmt := top 45
abbrev N_width : List Str := ["options"]
theorem S_width : FnScope N_width ["options"] (defScope s_width) := ⟨rfl, rfl, rfl, by decide +kernel, rfl, by decide +kernel, by decide +kernel⟩
abbrev s_number_bits : Stmt := top 46
abbrev N_number_bits : List Str := ["number", "options", "bits", "digits"]
theorem S_number_bits : FnScope N_number_bits ["number", "options"] (defScope s_number_bits) := ⟨rfl, rfl, rfl, by decide +kernel, rfl, by decide +kernel, by decide +kernel⟩
abbrev s_free_places : Stmt := top 48
abbrev N_free_places : List Str := ["size", "number"]
theorem S_free_places : FnScope N_free_places ["size", "number"] (defScope s_free_places) := ⟨rfl, rfl, rfl, by decide +kernel, rfl, by decide +kernel, by decide +kernel⟩
abbrev s_count_below : Stmt := top 49
abbrev N_count_below : List Str := ["ascending", "value", "low", "high", "middle"]
theorem S_count_below : FnScope N_count_below ["ascending", "value"] (defScope s_count_below) := ⟨rfl, rfl, rfl, by decide +kernel, rfl, by decide +kernel, by decide +kernel⟩
abbrev s_place_numbers : Stmt := top 50
abbrev N_place_numbers : List Str := ["alphabet", "rows", "taken", "numbers", "parent", "letter", "place", "before"]
theorem S_place_numbers : FnScope N_place_numbers ["alphabet", "rows"] (defScope s_place_numbers) := ⟨rfl, rfl, rfl, by decide +kernel, rfl, by decide +kernel, by decide +kernel⟩
abbrev s_press : Stmt := top 51
abbrev N_press : List Str := ["alphabet", "text", "cut", "size", "parts", "piece", "place"]
theorem S_press : FnScope N_press ["alphabet", "text"] (defScope s_press) := ⟨rfl, rfl, rfl, by decide +kernel, rfl, by decide +kernel, by decide +kernel⟩
abbrev s_Round___init__ : Stmt := inClass (top 53) 0
abbrev N_Round___init__ : List Str := ["self", "alphabet", "head", "ring", "root", "turned", "place"]
theorem S_Round___init__ : FnScope N_Round___init__ ["self", "alphabet", "head", "ring"] (defScope s_Round___init__) := ⟨rfl, rfl, rfl, by decide +kernel, rfl, by decide +kernel, by decide +kernel⟩
abbrev s_Round_beginning : Stmt := inClass (top 53) 3
abbrev N_Round_beginning : List Str := ["self", "length"]
theorem S_Round_beginning : FnScope N_Round_beginning ["self", "length"] (defScope s_Round_beginning) := ⟨rfl, rfl, rfl, by decide +kernel, rfl, by decide +kernel, by decide +kernel⟩
abbrev s_turned_letters : Stmt := top 54
abbrev N_turned_letters : List Str := ["head", "ring", "turned"]
theorem S_turned_letters : FnScope N_turned_letters ["head", "ring"] (defScope s_turned_letters) := ⟨rfl, rfl, rfl, by decide +kernel, rfl, by decide +kernel, by decide +kernel⟩
abbrev s__law_whole : Stmt := top 56
abbrev N__law_whole : List Str := ["value"]
theorem S__law_whole : FnScope N__law_whole ["value"] (defScope s__law_whole) := ⟨rfl, rfl, rfl, by decide +kernel, rfl, by decide +kernel, by decide +kernel⟩
abbrev s__law_cell : Stmt := top 57
abbrev N__law_cell : List Str := ["script", "k", "seed", "cell"]
theorem S__law_cell : FnScope N__law_cell ["script", "k"] (defScope s__law_cell) := ⟨rfl, rfl, rfl, by decide +kernel, rfl, by decide +kernel, by decide +kernel⟩
abbrev s__law_digits : Stmt := top 58
abbrev N__law_digits : List Str := ["cell", "sizes", "row", "rest", "size", "seed", "k", "twice"]
theorem S__law_digits : FnScope N__law_digits ["cell", "sizes"] (defScope s__law_digits) := ⟨rfl, rfl, rfl, by decide +kernel, rfl, by decide +kernel, by decide +kernel⟩
abbrev s__law_signs : Stmt := top 59
abbrev N__law_signs : List Str := ["row", "many", "figures", "taken", "k", "at", "turn"]
theorem S__law_signs : FnScope N__law_signs ["row"] (defScope s__law_signs) := ⟨rfl, rfl, rfl, by decide +kernel, rfl, by decide +kernel, by decide +kernel⟩
abbrev s__law_free_word : Stmt := top 60
abbrev N__law_free_word : List Str := ["signs", "row", "many", "k"]
theorem S__law_free_word : FnScope N__law_free_word ["signs", "row", "many"] (defScope s__law_free_word) := ⟨rfl, rfl, rfl, by decide +kernel, rfl, by decide +kernel, by decide +kernel⟩
abbrev s__law_counting_word : Stmt := top 61
abbrev N__law_counting_word : List Str := ["signs", "many", "word", "stems", "turn", "grown", "stem", "letter"]
theorem S__law_counting_word : FnScope N__law_counting_word ["signs", "many"] (defScope s__law_counting_word) := ⟨rfl, rfl, rfl, by decide +kernel, rfl, by decide +kernel, by decide +kernel⟩
abbrev s__law_word : Stmt := top 62
abbrev N__law_word : List Str := ["signs", "row", "most", "many", "free", "kind", "k", "word"]
theorem S__law_word : FnScope N__law_word ["signs", "row", "most"] (defScope s__law_word) := ⟨rfl, rfl, rfl, by decide +kernel, rfl, by decide +kernel, by decide +kernel⟩
abbrev s__law_long_word : Stmt := top 63
abbrev N__law_long_word : List Str := ["script", "first", "signs", "row", "many", "free", "word", "k", "at", "parts", "part"]
theorem S__law_long_word : FnScope N__law_long_word ["script", "first", "signs", "row"] (defScope s__law_long_word) := ⟨rfl, rfl, rfl, by decide +kernel, rfl, by decide +kernel, by decide +kernel⟩
abbrev s__law_cut : Stmt := top 64
abbrev N__law_cut : List Str := ["word", "pieces", "known", "rows", "part", "letter"]
theorem S__law_cut : FnScope N__law_cut ["word"] (defScope s__law_cut) := ⟨rfl, rfl, rfl, by decide +kernel, rfl, by decide +kernel, by decide +kernel⟩
abbrev s__law_width : Stmt := top 65
abbrev N__law_width : List Str := ["many", "wide", "top", "k"]
theorem S__law_width : FnScope N__law_width ["many"] (defScope s__law_width) := ⟨rfl, rfl, rfl, by decide +kernel, rfl, by decide +kernel, by decide +kernel⟩
abbrev s__law_number : Stmt := top 66
abbrev N__law_number : List Str := ["value", "many", "made", "rest", "k"]
theorem S__law_number : FnScope N__law_number ["value", "many"] (defScope s__law_number) := ⟨rfl, rfl, rfl, by decide +kernel, rfl, by decide +kernel, by decide +kernel⟩
abbrev s__law_numbers : Stmt := top 67
abbrev N__law_numbers : List Str := ["signs", "word", "made", "rows", "free", "found", "k", "at", "letter"]
theorem S__law_numbers : FnScope N__law_numbers ["signs", "word"] (defScope s__law_numbers) := ⟨rfl, rfl, rfl, by decide +kernel, rfl, by decide +kernel, by decide +kernel⟩
abbrev s__law_many_numbers : Stmt := top 68
abbrev N__law_many_numbers : List Str := ["signs", "word", "made", "size", "many", "counts", "sisters", "found", "k", "above", "letter", "less", "place", "sister"]
theorem S__law_many_numbers : FnScope N__law_many_numbers ["signs", "word"] (defScope s__law_many_numbers) := ⟨rfl, rfl, rfl, by decide +kernel, rfl, by decide +kernel, by decide +kernel⟩
abbrev s__law_wider : Stmt := top 69
abbrev N__law_wider : List Str := ["signs", "digit", "others", "letter"]
theorem S__law_wider : FnScope N__law_wider ["signs", "digit"] (defScope s__law_wider) := ⟨rfl, rfl, rfl, by decide +kernel, rfl, by decide +kernel, by decide +kernel⟩
abbrev s__law_spoilt : Stmt := top 70
abbrev N__law_spoilt : List Str := ["signs", "wider", "word", "row", "strange", "added", "pair", "at", "made", "more", "letter"]
theorem S__law_spoilt : FnScope N__law_spoilt ["signs", "wider", "word", "row"] (defScope s__law_spoilt) := ⟨rfl, rfl, rfl, by decide +kernel, rfl, by decide +kernel, by decide +kernel⟩
abbrev s__law_no_signs : Stmt := top 71
abbrev N__law_no_signs : List Str := ["signs", "row", "at", "kind", "near"]
theorem S__law_no_signs : FnScope N__law_no_signs ["signs", "row"] (defScope s__law_no_signs) := ⟨rfl, rfl, rfl, by decide +kernel, rfl, by decide +kernel, by decide +kernel⟩
abbrev s__law_first_strange : Stmt := top 72
abbrev N__law_first_strange : List Str := ["signs", "word", "at"]
theorem S__law_first_strange : FnScope N__law_first_strange ["signs", "word"] (defScope s__law_first_strange) := ⟨rfl, rfl, rfl, by decide +kernel, rfl, by decide +kernel, by decide +kernel⟩
abbrev s__law_kin : Stmt := top 73
abbrev N__law_kin : List Str := ["e", "many"]
theorem S__law_kin : FnScope N__law_kin ["e"] (defScope s__law_kin) := ⟨rfl, rfl, rfl, by decide +kernel, rfl, by decide +kernel, by decide +kernel⟩
abbrev s__law_answer : Stmt := top 74
abbrev N__law_answer : List Str := ["signs", "word", "told", "e"]
theorem S__law_answer : FnScope N__law_answer ["signs", "word"] (defScope s__law_answer) := ⟨rfl, rfl, rfl, by decide +kernel, rfl, by decide +kernel, by decide +kernel⟩
abbrev s__law_judged : Stmt := top 75
abbrev N__law_judged : List Str := ["signs", "word", "at"]
theorem S__law_judged : FnScope N__law_judged ["signs", "word"] (defScope s__law_judged) := ⟨rfl, rfl, rfl, by decide +kernel, rfl, by decide +kernel, by decide +kernel⟩
abbrev s__law_refused : Stmt := top 76
abbrev N__law_refused : List Str := ["wrong", "words", "one"]
theorem S__law_refused : FnScope N__law_refused ["wrong", "words"] (defScope s__law_refused) := ⟨rfl, rfl, rfl, by decide +kernel, rfl, by decide +kernel, by decide +kernel⟩
abbrev s__law_cut_pressed : Stmt := top 77
abbrev N__law_cut_pressed : List Str := ["signs", "word", "due", "made", "told", "row"]
theorem S__law_cut_pressed : FnScope N__law_cut_pressed ["signs", "word", "due"] (defScope s__law_cut_pressed) := ⟨rfl, rfl, rfl, by decide +kernel, rfl, by decide +kernel, by decide +kernel⟩
abbrev s__law_beginning_pressed : Stmt := top 78
abbrev N__law_beginning_pressed : List Str := ["script", "signs", "row", "many", "head", "ring", "word", "text", "told"]
theorem S__law_beginning_pressed : FnScope N__law_beginning_pressed ["script", "signs"] (defScope s__law_beginning_pressed) := ⟨rfl, rfl, rfl, by decide +kernel, rfl, by decide +kernel, by decide +kernel⟩
abbrev s_law : Stmt := top 79
abbrev N_law : List Str := ["script", "signs", "row", "word", "at", "wider", "spoilt", "wrong", "due", "first", "kept"]
theorem S_law : FnScope N_law ["script"] (defScope s_law) := ⟨rfl, rfl, rfl, by decide +kernel, rfl, by decide +kernel, by decide +kernel⟩
structure Top (K : PySem.W.Frag) (mg : Str → Option Value) (C_Cut : Addr) (C_Round : Addr) : Prop where
  z_ValueError : mg "ValueError" = none
  z_all : mg "all" = none
  z_bool : mg "bool" = none
  z_enumerate : mg "enumerate" = none
  z_int : mg "int" = none
  z_isinstance : mg "isinstance" = none
  z_len : mg "len" = none
  z_list : mg "list" = none
  z_min : mg "min" = none
  z_range : mg "range" = none
  z_repr : mg "repr" = none
  z_sorted : mg "sorted" = none
  z_str : mg "str" = none
  z_sum : mg "sum" = none
  z_tuple : mg "tuple" = none
  z_zip : mg "zip" = none
  c_Cut : mg "Cut" = some (.ref C_Cut)
  cl_Cut : Cls K C_Cut
  n_Cut_alphabet : NoAttr K C_Cut "alphabet"
  n_Cut_rows : NoAttr K C_Cut "rows"
  n_Cut_tail : NoAttr K C_Cut "tail"
  n_Cut_pieces : NoAttr K C_Cut "pieces"
  n_Cut_many : NoAttr K C_Cut "many"
  n_Cut_text : NoAttr K C_Cut "text"
  n_Cut_starts : NoAttr K C_Cut "starts"
  c_Round : mg "Round" = some (.ref C_Round)
  cl_Round : Cls K C_Round
  n_Round_alphabet : NoAttr K C_Round "alphabet"
  n_Round_head : NoAttr K C_Round "head"
  n_Round_ring : NoAttr K C_Round "ring"
  n_Round_variety : NoAttr K C_Round "variety"
  g_LETTERS : ∃ t, mg "LETTERS" = some (.str (Str.ofString "0123456789abcdefghijklmnopqrstuvwxyz") t)
  g_MOST_LETTERS : ∃ t, mg "MOST_LETTERS" = some (.int 6 t)
structure ETop (K : PySem.W.Frag) (mg : Str → Option Value) (C_PressError : Addr) (C_BadAlphabet : Addr) (C_BadLetter : Addr) (C_BadRow : Addr) (C_BadTail : Addr) (C_BadRank : Addr) (C_NotBits : Addr) (C_BadIndex : Addr) (C_BadStanding : Addr) (C_BadRule : Addr) (C_AlphabetsDiffer : Addr) (C_DoesNotComeBack : Addr) (C_TooLarge : Addr) (C_NotWritten : Addr) (C_NoSuchText : Addr) (C_BadName : Addr) (C_NameTaken : Addr) (C_NoName : Addr) (C_EmptyRing : Addr) (C_NotInLot : Addr) (C_BadBuild : Addr) (C_BadGrowth : Addr) (C_EmptyText : Addr) (C_NothingToUndo : Addr) (C_NothingToRedo : Addr) : Prop where
  c_PressError : mg "PressError" = some (.ref C_PressError)
  c_BadAlphabet : mg "BadAlphabet" = some (.ref C_BadAlphabet)
  c_BadLetter : mg "BadLetter" = some (.ref C_BadLetter)
  c_BadRow : mg "BadRow" = some (.ref C_BadRow)
  c_BadTail : mg "BadTail" = some (.ref C_BadTail)
  c_BadRank : mg "BadRank" = some (.ref C_BadRank)
  c_NotBits : mg "NotBits" = some (.ref C_NotBits)
  c_BadIndex : mg "BadIndex" = some (.ref C_BadIndex)
  c_BadStanding : mg "BadStanding" = some (.ref C_BadStanding)
  c_BadRule : mg "BadRule" = some (.ref C_BadRule)
  c_AlphabetsDiffer : mg "AlphabetsDiffer" = some (.ref C_AlphabetsDiffer)
  c_DoesNotComeBack : mg "DoesNotComeBack" = some (.ref C_DoesNotComeBack)
  c_TooLarge : mg "TooLarge" = some (.ref C_TooLarge)
  c_NotWritten : mg "NotWritten" = some (.ref C_NotWritten)
  c_NoSuchText : mg "NoSuchText" = some (.ref C_NoSuchText)
  c_BadName : mg "BadName" = some (.ref C_BadName)
  c_NameTaken : mg "NameTaken" = some (.ref C_NameTaken)
  c_NoName : mg "NoName" = some (.ref C_NoName)
  c_EmptyRing : mg "EmptyRing" = some (.ref C_EmptyRing)
  c_NotInLot : mg "NotInLot" = some (.ref C_NotInLot)
  c_BadBuild : mg "BadBuild" = some (.ref C_BadBuild)
  c_BadGrowth : mg "BadGrowth" = some (.ref C_BadGrowth)
  c_EmptyText : mg "EmptyText" = some (.ref C_EmptyText)
  c_NothingToUndo : mg "NothingToUndo" = some (.ref C_NothingToUndo)
  c_NothingToRedo : mg "NothingToRedo" = some (.ref C_NothingToRedo)
  nf_BadAlphabet_alphabet : PySem.W.findIn K (.ref C_BadAlphabet) "alphabet" = some none
  kt_BadAlphabet_PressError : PySem.W.kitOne K (.ref C_BadAlphabet) (.ref C_PressError) = some true
  kt_BadAlphabet_BadAlphabet : PySem.W.kitOne K (.ref C_BadAlphabet) (.ref C_BadAlphabet) = some true
  kt_BadAlphabet_BadLetter : PySem.W.kitOne K (.ref C_BadAlphabet) (.ref C_BadLetter) = some false
  kt_BadAlphabet_BadRow : PySem.W.kitOne K (.ref C_BadAlphabet) (.ref C_BadRow) = some false
  kt_BadAlphabet_BadTail : PySem.W.kitOne K (.ref C_BadAlphabet) (.ref C_BadTail) = some false
  kt_BadAlphabet_BadRank : PySem.W.kitOne K (.ref C_BadAlphabet) (.ref C_BadRank) = some false
  kt_BadAlphabet_NotBits : PySem.W.kitOne K (.ref C_BadAlphabet) (.ref C_NotBits) = some false
  kt_BadAlphabet_BadIndex : PySem.W.kitOne K (.ref C_BadAlphabet) (.ref C_BadIndex) = some false
  kt_BadAlphabet_BadStanding : PySem.W.kitOne K (.ref C_BadAlphabet) (.ref C_BadStanding) = some false
  kt_BadAlphabet_BadRule : PySem.W.kitOne K (.ref C_BadAlphabet) (.ref C_BadRule) = some false
  kt_BadAlphabet_AlphabetsDiffer : PySem.W.kitOne K (.ref C_BadAlphabet) (.ref C_AlphabetsDiffer) = some false
  kt_BadAlphabet_DoesNotComeBack : PySem.W.kitOne K (.ref C_BadAlphabet) (.ref C_DoesNotComeBack) = some false
  kt_BadAlphabet_TooLarge : PySem.W.kitOne K (.ref C_BadAlphabet) (.ref C_TooLarge) = some false
  kt_BadAlphabet_NotWritten : PySem.W.kitOne K (.ref C_BadAlphabet) (.ref C_NotWritten) = some false
  kt_BadAlphabet_NoSuchText : PySem.W.kitOne K (.ref C_BadAlphabet) (.ref C_NoSuchText) = some false
  kt_BadAlphabet_BadName : PySem.W.kitOne K (.ref C_BadAlphabet) (.ref C_BadName) = some false
  kt_BadAlphabet_NameTaken : PySem.W.kitOne K (.ref C_BadAlphabet) (.ref C_NameTaken) = some false
  kt_BadAlphabet_NoName : PySem.W.kitOne K (.ref C_BadAlphabet) (.ref C_NoName) = some false
  kt_BadAlphabet_EmptyRing : PySem.W.kitOne K (.ref C_BadAlphabet) (.ref C_EmptyRing) = some false
  kt_BadAlphabet_NotInLot : PySem.W.kitOne K (.ref C_BadAlphabet) (.ref C_NotInLot) = some false
  kt_BadAlphabet_BadBuild : PySem.W.kitOne K (.ref C_BadAlphabet) (.ref C_BadBuild) = some false
  kt_BadAlphabet_BadGrowth : PySem.W.kitOne K (.ref C_BadAlphabet) (.ref C_BadGrowth) = some false
  kt_BadAlphabet_EmptyText : PySem.W.kitOne K (.ref C_BadAlphabet) (.ref C_EmptyText) = some false
  kt_BadAlphabet_NothingToUndo : PySem.W.kitOne K (.ref C_BadAlphabet) (.ref C_NothingToUndo) = some false
  kt_BadAlphabet_NothingToRedo : PySem.W.kitOne K (.ref C_BadAlphabet) (.ref C_NothingToRedo) = some false
  kt_BadAlphabet_VE : PySem.W.kitOne K (.ref C_BadAlphabet) (.type "ValueError") = some true
  ex_BadAlphabet_PressError : PySem.W.exmOne K (.ref C_BadAlphabet) (.ref C_PressError) = some true
  nf_BadLetter_index : PySem.W.findIn K (.ref C_BadLetter) "index" = some none
  kt_BadLetter_PressError : PySem.W.kitOne K (.ref C_BadLetter) (.ref C_PressError) = some true
  kt_BadLetter_BadAlphabet : PySem.W.kitOne K (.ref C_BadLetter) (.ref C_BadAlphabet) = some false
  kt_BadLetter_BadLetter : PySem.W.kitOne K (.ref C_BadLetter) (.ref C_BadLetter) = some true
  kt_BadLetter_BadRow : PySem.W.kitOne K (.ref C_BadLetter) (.ref C_BadRow) = some false
  kt_BadLetter_BadTail : PySem.W.kitOne K (.ref C_BadLetter) (.ref C_BadTail) = some false
  kt_BadLetter_BadRank : PySem.W.kitOne K (.ref C_BadLetter) (.ref C_BadRank) = some false
  kt_BadLetter_NotBits : PySem.W.kitOne K (.ref C_BadLetter) (.ref C_NotBits) = some false
  kt_BadLetter_BadIndex : PySem.W.kitOne K (.ref C_BadLetter) (.ref C_BadIndex) = some false
  kt_BadLetter_BadStanding : PySem.W.kitOne K (.ref C_BadLetter) (.ref C_BadStanding) = some false
  kt_BadLetter_BadRule : PySem.W.kitOne K (.ref C_BadLetter) (.ref C_BadRule) = some false
  kt_BadLetter_AlphabetsDiffer : PySem.W.kitOne K (.ref C_BadLetter) (.ref C_AlphabetsDiffer) = some false
  kt_BadLetter_DoesNotComeBack : PySem.W.kitOne K (.ref C_BadLetter) (.ref C_DoesNotComeBack) = some false
  kt_BadLetter_TooLarge : PySem.W.kitOne K (.ref C_BadLetter) (.ref C_TooLarge) = some false
  kt_BadLetter_NotWritten : PySem.W.kitOne K (.ref C_BadLetter) (.ref C_NotWritten) = some false
  kt_BadLetter_NoSuchText : PySem.W.kitOne K (.ref C_BadLetter) (.ref C_NoSuchText) = some false
  kt_BadLetter_BadName : PySem.W.kitOne K (.ref C_BadLetter) (.ref C_BadName) = some false
  kt_BadLetter_NameTaken : PySem.W.kitOne K (.ref C_BadLetter) (.ref C_NameTaken) = some false
  kt_BadLetter_NoName : PySem.W.kitOne K (.ref C_BadLetter) (.ref C_NoName) = some false
  kt_BadLetter_EmptyRing : PySem.W.kitOne K (.ref C_BadLetter) (.ref C_EmptyRing) = some false
  kt_BadLetter_NotInLot : PySem.W.kitOne K (.ref C_BadLetter) (.ref C_NotInLot) = some false
  kt_BadLetter_BadBuild : PySem.W.kitOne K (.ref C_BadLetter) (.ref C_BadBuild) = some false
  kt_BadLetter_BadGrowth : PySem.W.kitOne K (.ref C_BadLetter) (.ref C_BadGrowth) = some false
  kt_BadLetter_EmptyText : PySem.W.kitOne K (.ref C_BadLetter) (.ref C_EmptyText) = some false
  kt_BadLetter_NothingToUndo : PySem.W.kitOne K (.ref C_BadLetter) (.ref C_NothingToUndo) = some false
  kt_BadLetter_NothingToRedo : PySem.W.kitOne K (.ref C_BadLetter) (.ref C_NothingToRedo) = some false
  kt_BadLetter_VE : PySem.W.kitOne K (.ref C_BadLetter) (.type "ValueError") = some true
  ex_BadLetter_PressError : PySem.W.exmOne K (.ref C_BadLetter) (.ref C_PressError) = some true
end Ver
namespace Ver
open PySem PySem.Spec PyProof.Rows L2 Evl
section
variable {P : Program} {w : World} {K : PySem.W.Frag} {mg : Str → Option Value} {base : Heap} {C_Cut : Addr} {C_Round : Addr}
theorem has_digits (F : At K mg "_law_digits" s__law_digits) (T : Top K mg C_Cut C_Round) : Has P w K mg base "_law_digits" s__law_digits ["cell", "sizes"] 1 (spDigits K) := by
  obtain ⟨f, fd, F, m⟩ := F.ex
  refine ⟨f, fd, F, F.ok S__law_digits (fun vs H Q E h => ?_) (fun cdv A outer s H vs Q E hr h => ?_), F.binds fun _ _ _ _ _ _ us hl => match us, hl with | [_, _], _ => rfl, m, F.kp⟩
  · obtain ⟨c, a, ss, rfl, _⟩ := h
    rfl
  obtain ⟨c, a, ss, rfl, hS, hz, hss, q⟩ := h
  refine ⟨_, (pss_cons
    (ps_set (i := 2) S__law_digits.nd rfl (Or.inl rfl) (pe_lst pa_nil))
    (pss_cons
    (ps_set (i := 3) S__law_digits.nd rfl (Or.inl rfl) (pe_callTy call_int1 rfl T.z_int (by decide +kernel) (pa_cons (pv 0) pa_nil)))
    (pss_cons
    (ps_if (pt_cmpR op_ge (pv 3) (pe_op op_pow pe_int pe_int) (nomark _)) (pss_cons
    (ps_set (i := 3) S__law_digits.nd rfl (Or.inl rfl) (pe_op op_sub (pv 3) (pe_op op_pow pe_int pe_int)))
    (pss_cons
    (ps_for PassesOwn.never rfl (pi_list (pv 1)) (pg_name (i := 4) S__law_digits.nd rfl (Or.inl rfl)) (pss_cons
    (ps_expr (pe_bm PySem.F.plainAttrs_list PySem.F.slot_list_append PySem.F.type_list_append mt_append (pv 2) (pa_cons (pe_op op_mod (pe_callTy call_int1 rfl T.z_int (by decide +kernel) (pa_cons (pv 3) pa_nil)) (pv 4)) pa_nil)))
    (pss_one
    (ps_set (i := 3) S__law_digits.nd rfl (Or.inl rfl) (pe_op op_fdivW (pe_callTy call_int1 rfl T.z_int (by decide +kernel) (pa_cons (pv 3) pa_nil)) (pv 4))))))
    (pss_one
    (ps_ret (pv 2))))) pss_nil)
    (pss_cons
    (ps_set (i := 5) S__law_digits.nd rfl (Or.inl rfl) (pe_op op_mod (pe_callTy call_int1 rfl T.z_int (by decide +kernel) (pa_cons (pv 3) pa_nil)) pe_int))
    (pss_cons
    (ps_for PassesOwn.never rfl (pi_range1 rfl T.z_range (pa_cons (pe_callB call_len_seq rfl T.z_len PySem.boot_len (pa_cons (pv 1) pa_nil)) pa_nil)) (pg_name (i := 6) S__law_digits.nd rfl (Or.inl rfl)) (pss_cons
    (ps_set (i := 5) S__law_digits.nd rfl (Or.inl rfl) (pe_op op_mod (pe_callTy call_int1 rfl T.z_int (by decide +kernel) (pa_cons (pe_op op_add (pe_op op_add (pe_op op_mul (pv 5) pe_int) (pe_op op_mul pe_int (pv 6))) pe_int) pa_nil)) pe_int))
    (pss_cons
    (ps_set (i := 7) S__law_digits.nd rfl (Or.inl rfl) (pe_op op_mod (pe_callTy call_int1 rfl T.z_int (by decide +kernel) (pa_cons (pe_op op_mul (pv 5) (pe_op op_add (pe_op op_fdivW (pv 5) pe_int) pe_int)) pa_nil)) pe_int))
    (pss_one
    (ps_expr (pe_bm PySem.F.plainAttrs_list PySem.F.slot_list_append PySem.F.type_list_append mt_append (pv 2) (pa_cons (pe_op op_mod (pe_op op_fdivW (pv 7) pe_int) (pe_ix (r := rIxL K) ix_list (pv 1) (pv 6) (fun _ _ => rfl))) pa_nil)))))))
    (pss_one
    (ps_ret (pv 2)))))))), ?_⟩
  have hl : (((ss.map V.int).length : Nat) : Int) = (ss.length : Int) := by rw [List.length_map]
  have e18 : (10 : Int) ^ (18 : Int).toNat = 10 ^ 18 := rfl
  refine q_asgL (el_lst ea_nil (by decide)) fun p H1 hp e1 h1 => ?_
  refine q_asg (ev_int (ev_var rfl)) fun H2 e2 => ?_
  have hP : CPow 10 18 := ⟨by decide, by decide, by decide⟩
  refine q_when (et_is (et_ge (ev_var rfl) (ev_op ev_c ev_c (rv_I hP))) rfl) (fun hb H3 e3 => ?_) (fun hb H3 e3 => ?_)
  · have hc : 10 ^ 18 ≤ c := of_decide_eq_true hb
    refine q_asg (ev_sub (ev_var rfl) (ev_op ev_c ev_c (rv_I hP))) fun H4 e4 => ?_
    have e14 : Ex H H4 := ((e1.trans e2).trans e3).trans e4
    refine q_forLn (ev_var rfl) (ex_l e14 hS) (fun i σ' H' => (∃ u, σ' = [some (.int c), some (.ref a), some (.ref p), some (.int (restF c ss i)), u, none, none, none]) ∧ Ex H H' ∧ H' p = some (.lst (((List.range i).map (digA c ss)).map V.int))) ?_ ?_ ?_ ?_
    · intro H5 e5
      exact ⟨⟨none, rfl⟩, e14.trans e5, e5 _ _ (e4 _ _ (e3 _ _ (e2 _ _ h1)))⟩
    · intro i σ' H' _ z
      exact ex_l z.2.1 hS
    · intro i x σ' H' hx z
      obtain ⟨⟨u, rfl⟩, e5, h5⟩ := z
      obtain ⟨hi, rfl⟩ := at0_get hx
      obtain ⟨s1, s2⟩ := hss i hi
      refine q_app h5 (ev_var rfl) (ev_mod s1 (ev_int (ev_var rfl)) (ev_var rfl)) (by rw [List.length_map, List.length_map, List.length_range]; omega) fun H6 e6 => ?_
      refine s_asg (ev_div s1 s2 (ev_int (ev_var rfl)) (ev_var rfl)) fun H7 e7 => ⟨⟨some (.int (at0 ss i)), rfl⟩, ((e5.trans e6).mut hp).trans e7, ?_⟩
      rw [map_range_succ]
      exact e7 _ _ upd_same
    · intro σ' H' z
      obtain ⟨⟨u, rfl⟩, e5, h5⟩ := z
      rw [List.length_map] at h5
      refine s_ret (ev_var rfl) fun H6 e6 => ?_
      have e : digits c ss = (List.range ss.length).map (digA c ss) := by
        unfold digits
        refine List.map_congr_left fun i _ => ?_
        exact if_pos hc
      rw [e] at q
      exact q p H6 hp (e5.trans e6) (e6 _ _ h5)
  · have hc : ¬ 10 ^ 18 ≤ c := of_decide_eq_false hb
    refine q_asg (ev_mod (by decide) (ev_int (ev_var rfl)) ev_c) fun H4 e4 => ?_
    have e14 : Ex H H4 := ((e1.trans e2).trans e3).trans e4
    refine q_forR1 (ea_cons (ev_is (ev_cb (ea_cons (ev_var rfl) ea_nil) (rc_lenL (ex_l e14 hS))) (by rw [hl])) ea_nil) (by omega) (fun i σ' H' => (∃ u v, σ' = [some (.int c), some (.ref a), some (.ref p), some (.int c), none, some (.int (sdF c i)), u, v]) ∧ Ex H H' ∧ H' p = some (.lst (((List.range i).map (digB c ss)).map V.int))) ?_ ?_ ?_
    · intro H5 e5
      exact ⟨⟨none, none, rfl⟩, e14.trans e5, e5 _ _ (e4 _ _ (e3 _ _ (e2 _ _ h1)))⟩
    · intro i σ' H' hi z
      obtain ⟨⟨u, v, rfl⟩, e5, h5⟩ := z
      have hi' : i < ss.length := by omega
      obtain ⟨s1, s2⟩ := hss i hi'
      have b1 := sd_bound c (i + 1)
      refine q_asg (ev_mod (by decide) (ev_int (ev_add (ev_add (ev_mulR (by decide) (by decide) (ev_var rfl) ev_c) (ev_mulL (by decide) (by decide) ev_c (ev_var rfl))) ev_c)) ev_c) fun H6 e6 => ?_
      refine q_asg (ev_mod (by decide) (ev_int (ev_mulR (i := sdF c (i + 1)) (j := sdF c (i + 1) / 65537 + 3) (by omega) (by omega) (ev_var rfl) (ev_add (ev_div (by decide) (by decide) (ev_var rfl) ev_c) ev_c))) ev_c) fun H7 e7 => ?_
      refine s_app (e7 _ _ (e6 _ _ h5)) (ev_var rfl) (ev_mod s1 (ev_div (by decide) (by decide) (ev_var rfl) ev_c) (ev_at (ex_l ((e5.trans e6).trans e7) hS) hi' (ev_var rfl) (ev_var rfl))) (by rw [List.length_map, List.length_map, List.length_range]; omega) fun H8 e8 => ⟨⟨some (.int (i : Int)), some (.int (twF c i)), rfl⟩, (((e5.trans e6).trans e7).trans e8).mut hp, ?_⟩
      rw [map_range_succ]
      exact upd_same
    · intro σ' H' z
      obtain ⟨⟨u, v, rfl⟩, e5, h5⟩ := z
      refine s_ret (ev_var rfl) fun H6 e6 => ?_
      have e : digits c ss = (List.range ss.length).map (digB c ss) := by
        unfold digits
        refine List.map_congr_left fun i _ => ?_
        exact if_neg hc
      rw [e] at q
      exact q p H6 hp (e5.trans e6) (e6 _ _ h5)
end
end Ver
namespace Ver
open PySem PySem.Spec PyProof.Rows L2 Evl
section
variable {P : Program} {w : World} {K : PySem.W.Frag} {mg : Str → Option Value} {base : Heap} {C_Cut : Addr} {C_Round : Addr}
theorem has_cell (F : At K mg "_law_cell" s__law_cell) (T : Top K mg C_Cut C_Round) : Has P w K mg base "_law_cell" s__law_cell ["script", "k"] 1 (spCell K) := by
  obtain ⟨f, fd, F, m⟩ := F.ex
  refine ⟨f, fd, F, F.ok S__law_cell (fun vs H Q E h => ?_) (fun cdv A outer s H vs Q E hr h => ?_), F.binds fun _ _ _ _ _ _ us hl => match us, hl with | [_, _], _ => rfl, m, F.kp⟩
  · obtain ⟨a, ns, k, rfl, _⟩ := h
    rfl
  obtain ⟨a, ns, k, rfl, hS, h63, hk, q⟩ := h
  refine ⟨_, (pss_cons
    (ps_if (pt_cmpR op_lt (pv 1) (pe_callB call_len_seq rfl T.z_len PySem.boot_len (pa_cons (pv 0) pa_nil)) (nomark _)) (pss_one
    (ps_ret (pe_ix (r := rIxL K) ix_list (pv 0) (pv 1) (fun _ _ => rfl)))) pss_nil)
    (pss_cons
    (ps_set (i := 2) S__law_cell.nd rfl (Or.inl rfl) pe_int)
    (pss_cons
    (ps_for PassesOwn.never rfl (pi_list (pv 0)) (pg_name (i := 3) S__law_cell.nd rfl (Or.inl rfl)) (pss_one
    (ps_set (i := 2) S__law_cell.nd rfl (Or.inl rfl) (pe_op op_mod (pe_callTy call_int1 rfl T.z_int (by decide +kernel) (pa_cons (pe_op op_add (pe_op op_mul (pv 2) pe_int) (pe_op op_mod (pe_callTy call_int1 rfl T.z_int (by decide +kernel) (pa_cons (pv 3) pa_nil)) pe_int)) pa_nil)) pe_int))))
    (pss_one
    (ps_ret (pe_op op_mod (pe_callTy call_int1 rfl T.z_int (by decide +kernel) (pa_cons (pe_op op_mul (pe_op op_mul (pe_op op_add (pv 2) pe_int) (pe_op op_add (pv 1) pe_int)) pe_int) pa_nil)) pe_int)))))), ?_⟩
  have hl : (((ns.map V.int).length : Nat) : Int) = (ns.length : Int) := by rw [List.length_map]
  refine q_when (et_is (et_lt (ev_var rfl) (ev_is (ev_cb (ea_cons (ev_var rfl) ea_nil) (rc_lenL hS)) (by rw [hl]))) rfl) (fun hb H1 e1 => ?_) (fun hb H1 e1 => ?_)
  · have hlt : k < (ns.length : Int) := of_decide_eq_true hb
    have ek : k = ((k.toNat : Nat) : Int) := by omega
    refine s_ret (ev_at (ex_l e1 hS) (show k.toNat < ns.length by omega) (ev_var rfl) (ev_is (ev_var rfl) (by rw [← ek]))) fun H2 e2 => ?_
    have e : cell ns k = at0 ns k.toNat := if_pos hlt
    rw [e] at q
    exact q H2 (e1.trans e2)
  · have hlt : ¬ k < (ns.length : Int) := of_decide_eq_false hb
    refine q_asg ev_c fun H2 e2 => ?_
    refine q_forLn (ev_var rfl) (ex_l (e1.trans e2) hS) (fun i σ' H' => (∃ u, σ' = [some (.ref a), some (.int k), some (.int (seedF ns i)), u]) ∧ Ex H H') ?_ ?_ ?_ ?_
    · intro H3 e3
      exact ⟨⟨none, rfl⟩, (e1.trans e2).trans e3⟩
    · intro i σ' H' _ p
      exact ex_l p.2 hS
    · intro i x σ' H' hx p
      obtain ⟨⟨u, rfl⟩, e3⟩ := p
      obtain ⟨hi, rfl⟩ := at0_get hx
      refine s_asg (ev_mod (by decide) (ev_int (ev_add (ev_mulR (by decide) (by decide) (ev_var rfl) ev_c) (ev_mod (by decide) (ev_int (ev_var rfl)) ev_c))) ev_c) fun H4 e4 => ⟨⟨some (.int (at0 ns i)), rfl⟩, e3.trans e4⟩
    · intro σ' H' p
      obtain ⟨⟨u, rfl⟩, e3⟩ := p
      rw [List.length_map]
      refine s_ret (ev_mod (by decide) (ev_int (ev_mulR (by decide) (by decide) (ev_mulR (by omega) (by omega) (ev_add (ev_var rfl) ev_c) (ev_add (ev_var rfl) ev_c)) ev_c)) ev_c) fun H4 e4 => ?_
      have e : cell ns k = ((seedF ns ns.length + 7) * (k + 3) * 69621) % 2147483647 := if_neg hlt
      rw [e] at q
      exact q H4 (e3.trans e4)
end
end Ver
namespace Ver
open PySem PySem.Spec PyProof.Rows L2 Evl
/-! ### _law_signs -/
def figs : List Nat := [48, 49, 50, 51, 52, 53, 54, 55, 56, 57, 97, 98, 99, 100, 101, 102, 103, 104, 105, 106, 107, 108, 109, 110, 111, 112, 113, 114, 115, 116, 117, 118, 119, 120, 121, 122]
theorem figs_is : Str.ofString "0123456789abcdefghijklmnopqrstuvwxyz" = SX.S figs := by decide +kernel
theorem mt_is : Str.ofString "" = SX.S [] := by decide +kernel
theorem figs_let : ∀ c ∈ figs, (48 ≤ c ∧ c ≤ 57) ∨ (97 ≤ c ∧ c ≤ 122) := by decide +kernel
theorem figs_nd : figs.Nodup := by decide +kernel
theorem figs_at {i : Nat} (h : i < 36) : figs[i]? = some (figs.getD i 0) := by
  have : figs.length = 36 := rfl
  rw [List.getD_eq_getElem?_getD, List.getElem?_eq_getElem (by omega)]
  rfl
theorem figs_mem {i : Nat} (h : i < 36) : figs.getD i 0 ∈ figs := List.mem_of_getElem? (figs_at h)
theorem inV_one {c : Nat} {cs : List Nat} : inV (tx [c]) (cs.map fun c => tx [c]) = decide (c ∈ cs) := by
  unfold inV
  induction cs with
  | nil => rfl
  | cons d r ih =>
    rw [List.map_cons, List.any_cons, ih]
    show ((SX.S [d] == SX.S [c]) || decide (c ∈ r)) = _
    rw [SX.S_beq_eq, Bool.eq_iff_iff, Bool.or_eq_true, decide_eq_true_eq, decide_eq_true_eq, decide_eq_true_eq, List.mem_cons]
    constructor
    · rintro (h | h)
      · exact .inl (List.cons.inj h).1.symm
      · exact .inr h
    · rintro (h | h)
      · exact .inl (by rw [h])
      · exact .inr h
theorem flat_ones (cs : List Nat) : (cs.map fun c => tx [c]).all flatV = true := by
  induction cs with
  | nil => rfl
  | cons d r ih =>
    rw [List.map_cons, List.all_cons, ih]
    rfl
theorem rising_ones : ∀ (p : Nat) (cs : List Nat), risingS (SX.S [p]) (cs.map fun c => SX.S [c]) = true → (p :: cs).Pairwise (· ≤ ·)
  | p, [], _ => List.pairwise_singleton _ _
  | p, c :: r, h => by
    have h2 : (!ltCps [c] [p] && risingS (SX.S [c]) (r.map fun c => SX.S [c])) = true := h
    rw [Bool.and_eq_true, Bool.not_eq_true'] at h2
    have ih := rising_ones c r h2.2
    have hpc : p ≤ c := by
      have e : ltCps [c] [p] = (decide (c < p) || (c == p && ltCps [] [])) := rfl
      rw [e, Bool.or_eq_false_iff] at h2
      have := of_decide_eq_false h2.1.1
      omega
    refine List.pairwise_cons.mpr ⟨fun x hx => ?_, ih⟩
    rcases List.mem_cons.mp hx with rfl | hx
    · exact hpc
    · exact Nat.le_trans hpc ((List.pairwise_cons.mp ih).1 x hx)
theorem sorted_ones : ∀ (cs : List Nat), sortedS (cs.map fun c => SX.S [c]) = true → cs.Pairwise (· ≤ ·)
  | [], _ => List.Pairwise.nil
  | c :: r, h => rising_ones c r h
theorem flat_sing (cs : List Nat) : (cs.map fun c => [c]).flatten = cs := by
  induction cs with
  | nil => rfl
  | cons d r ih =>
    rw [List.map_cons, List.flatten_cons, ih]
    rfl
/-- the sorted signs of a list of different ones -/
theorem sorted_signs {cs : List Nat} {ys : List Str} (nd : cs.Nodup) (hp : ys.Perm (cs.map fun c => SX.S [c])) (hs : sortedS ys = true) : ∃ ds : List Nat, ys = ds.map (fun c => SX.S [c]) ∧ ds.Perm cs ∧ ds.Pairwise (· < ·) := by
  let g : Str → Nat := fun s => s.cps.toList.headD 0
  have hy : ys = (ys.map g).map fun c => SX.S [c] := by
    rw [List.map_map]
    refine (List.map_id' ys).symm.trans ?_ |> fun h => h
    refine List.map_congr_left fun y hm => ?_
    have := hp.mem_iff.mp hm
    obtain ⟨c, _, rfl⟩ := List.mem_map.mp this
    rfl
  have hd : (ys.map g).Perm cs := by
    have := hp.map g
    rw [List.map_map] at this
    have e : cs.map (g ∘ fun c => SX.S [c]) = cs := by
      conv => rhs; rw [← List.map_id' cs]
      exact List.map_congr_left fun _ _ => rfl
    rw [e] at this
    exact this
  refine ⟨ys.map g, hy, hd, ?_⟩
  have hle := sorted_ones (ys.map g) (by rw [← hy]; exact hs)
  have hnd := (hd.nodup_iff).mpr nd
  have := hle.and hnd
  exact this.imp fun h => Nat.lt_of_le_of_ne h.1 h.2
theorem s_retJoinX {K : PySem.W.Frag} {σ : L2.St} {H : Hp} {D : Ends} {te : TE} (h : te σ H fun y H2 => rJoin K (.str (Str.ofString "")) [y] H2 D.rt) : tRet (tM1 (rJoin K) (tC (.str (Str.ofString ""))) te) D σ H := ⟨⟨_, rfl⟩, h⟩
def manyOf (r0 : Int) : Int := at0 [2, 2, 2, 2, 3, 3, 3, 1, 4, 5, 6, 2] r0.toNat
section
variable {P : Program} {w : World} {K : PySem.W.Frag} {mg : Str → Option Value} {base : Heap} {C_Cut : Addr} {C_Round : Addr}
def spSigns (K : PySem.W.Frag) : Sp := fun vs H Q _ => ∃ (a : Addr) (r : List Int), vs = [.ref a] ∧ SqL K H a (r.map V.int) ∧ r.length = 7 ∧ (0 ≤ at0 r 0 ∧ at0 r 0 < 12) ∧ ∀ al, Alf al → RetV (tx al) H Q
theorem has_signs (F : At K mg "_law_signs" s__law_signs) (T : Top K mg C_Cut C_Round) : Has P w K mg base "_law_signs" s__law_signs ["row"] 1 (spSigns K) := by
  obtain ⟨f, fd, F, m⟩ := F.ex
  refine ⟨f, fd, F, F.ok S__law_signs (fun vs H Q E h => ?_) (fun cdv A outer s H vs Q E hr h => ?_), F.binds fun _ _ _ _ _ _ us hl => match us, hl with | [_], _ => rfl, m, F.kp⟩
  · obtain ⟨a, r, rfl, _⟩ := h
    rfl
  obtain ⟨a, r, rfl, hR, hl, b0, q⟩ := h
  refine ⟨_, (pss_cons
    (ps_set (i := 1) S__law_signs.nd rfl (Or.inl rfl) (pe_ix (r := rIxL K) ix_list (pe_lst (pa_cons pe_int (pa_cons pe_int (pa_cons pe_int (pa_cons pe_int (pa_cons pe_int (pa_cons pe_int (pa_cons pe_int (pa_cons pe_int (pa_cons pe_int (pa_cons pe_int (pa_cons pe_int (pa_cons pe_int pa_nil))))))))))))) (pe_ix (r := rIxL K) ix_list (pv 0) pe_int (fun _ _ => rfl)) (fun _ _ => rfl)))
    (pss_cons
    (ps_set (i := 2) S__law_signs.nd rfl (Or.inl rfl) pe_str)
    (pss_cons
    (ps_set (i := 3) S__law_signs.nd rfl (Or.inl rfl) (pe_lst pa_nil))
    (pss_cons
    (ps_for PassesOwn.never rfl (pi_range1 rfl T.z_range (pa_cons (pv 1) pa_nil)) (pg_name (i := 4) S__law_signs.nd rfl (Or.inl rfl)) (pss_cons
    (ps_set (i := 5) S__law_signs.nd rfl (Or.inl rfl) (pe_op op_mod (pe_callTy call_int1 rfl T.z_int (by decide +kernel) (pa_cons (pe_ix (r := rIxL K) ix_list (pv 0) (pe_op op_add pe_int (pv 4)) (fun _ _ => rfl)) pa_nil)) pe_int))
    (pss_cons
    (ps_for PassesOwn.never rfl (pi_range1 rfl T.z_range (pa_cons pe_int pa_nil)) (pg_name (i := 6) S__law_signs.nd rfl (Or.inl rfl)) (pss_one
    (ps_if (pt_cmpR op_in_seq (pe_ix ix_str (pv 2) (pv 5) (fun _ _ => rfl)) (pv 3) rfl) (pss_one
    (ps_set (i := 5) S__law_signs.nd rfl (Or.inl rfl) (pe_op op_mod (pe_callTy call_int1 rfl T.z_int (by decide +kernel) (pa_cons (pe_op op_add (pv 5) pe_int) pa_nil)) pe_int))) pss_nil)))
    (pss_one
    (ps_expr (pe_bm PySem.F.plainAttrs_list PySem.F.slot_list_append PySem.F.type_list_append mt_append (pv 3) (pa_cons (pe_ix ix_str (pv 2) (pv 5) (fun _ _ => rfl)) pa_nil)))))))
    (pss_one
    (ps_ret (pe_join pe_str (pe_callB cr_sortedS rfl T.z_sorted (by decide +kernel) (pa_cons (pv 3) pa_nil))))))))), ?_⟩
  obtain ⟨i0, hi0, e0⟩ : ∃ i : Nat, i < 12 ∧ at0 r 0 = (i : Int) := ⟨(at0 r 0).toNat, by omega, by omega⟩
  have km : ∀ i : Nat, i < 12 → ∃ n : Nat, 1 ≤ n ∧ n ≤ 6 ∧ at0 [2, 2, 2, 2, 3, 3, 3, 1, 4, 5, 6, 2] i = (n : Int) := by
    intro i hi
    have k : ∀ i : Nat, i < 12 → 1 ≤ at0 [2, 2, 2, 2, 3, 3, 3, 1, 4, 5, 6, 2] i ∧ at0 [2, 2, 2, 2, 3, 3, 3, 1, 4, 5, 6, 2] i ≤ 6 := by decide +kernel
    obtain ⟨k1, k2⟩ := k i hi
    exact ⟨(at0 [2, 2, 2, 2, 3, 3, 3, 1, 4, 5, 6, 2] i).toNat, by omega, by omega, by omega⟩
  obtain ⟨n, n1, n6, en⟩ := km i0 hi0
  refine q_asg (v := .int (n : Int)) ?_ fun H1 e1 => ?_
  · refine ev_opL1 (xs := [2, 2, 2, 2, 3, 3, 3, 1, 4, 5, 6, 2].map V.int) (y := .int (i0 : Int)) (el_lst (ea_cons ev_c (ea_cons ev_c (ea_cons ev_c (ea_cons ev_c (ea_cons ev_c (ea_cons ev_c (ea_cons ev_c (ea_cons ev_c (ea_cons ev_c (ea_cons ev_c (ea_cons ev_c (ea_cons ev_c ea_nil)))))))))))) (by show 12 ≤ 100000; decide)) (fun H1 e1 => ev_is (ev_atI (ex_l e1 hR) (i := 0) (by omega) rfl (ev_var rfl) ev_c) (by rw [e0])) (fun p H3 h3 e3 => rv_ixL (sq_of h3) ?_)
    rw [← en]
    exact at_int (ns := [2, 2, 2, 2, 3, 3, 3, 1, 4, 5, 6, 2]) hi0
  refine q_asg (v := tx figs) (ev_is ev_c (by rw [figs_is])) fun H2 e2 => ?_
  refine q_asgL (xs := []) (el_lst ea_nil (by decide)) fun l H3 hl3 e3 g3 => ?_
  have e13 := (e1.trans e2).trans e3
  have hl0 : H l = none := fresh_back (e1.trans e2) hl3
  refine q_forR1 (ea_cons (ev_var rfl) ea_nil) (by omega) (fun i σ' H' => (∃ u4 u5 u6, σ' = [some (.ref a), some (.int (n : Int)), some (tx figs), some (.ref l), u4, u5, u6]) ∧ Ex H H' ∧ ∃ cs : List Nat, H' l = some (.lst (cs.map fun c => tx [c])) ∧ cs.length = i ∧ cs.Nodup ∧ ∀ c ∈ cs, c ∈ figs) ?_ ?_ ?_
  · intro H4 e4
    exact ⟨⟨none, none, none, rfl⟩, e13.trans e4, [], e4 _ _ g3, rfl, List.nodup_nil, fun c h => (by cases h)⟩
  · intro i σ' H' hi z
    obtain ⟨⟨u4, u5, u6, rfl⟩, e4, cs, g4, hcl, nd, sub⟩ := z
    have hi6 : i < 6 := by omega
    obtain ⟨a0, ha0, ea0⟩ : ∃ k : Nat, k < 36 ∧ at0 r (1 + i) % 36 = (k : Int) := ⟨(at0 r (1 + i) % 36).toNat, by omega, by omega⟩
    refine q_asg (v := .int (a0 : Int)) (ev_is (ev_mod (by decide) (ev_int (ev_atI (ex_l e4 hR) (i := 1 + i) (by omega) (by omega) (ev_var rfl) (ev_add ev_c (ev_var rfl)))) ev_c) (by rw [ea0])) fun H4 e5 => ?_
    have g5 := e5 _ _ g4
    refine q_forR1 (ea_cons ev_c ea_nil) (by decide) (fun t σ' H' => (∃ (k : Nat) (u6 : Option V), σ' = [some (.ref a), some (.int (n : Int)), some (tx figs), some (.ref l), some (.int (i : Int)), some (.int (k : Int)), u6] ∧ k < 36 ∧ (figs.getD k 0 ∉ cs ∨ k = (a0 + t) % 36 ∧ ∀ s, s < t → figs.getD ((a0 + s) % 36) 0 ∈ cs)) ∧ Ex H4 H') ?_ ?_ ?_
    · intro H5 e6
      exact ⟨⟨a0, u6, rfl, ha0, .inr ⟨by omega, fun s hs => absurd hs (Nat.not_lt_zero _)⟩⟩, e6⟩
    · intro t σ' H' ht z
      obtain ⟨⟨k, u6, rfl, hk, hz⟩, e6⟩ := z
      refine s_when (et_test (ev_op (ev_ixS (by decide) (figs_at hk) (ev_var rfl) (ev_var rfl)) (ev_var rfl) (rv_isL (sq_of (e6 _ _ g5)) rfl (flat_ones cs)))) (fun hb H5 e7 => ?_) (fun hb H5 e7 => ?_)
      · rw [inV_one] at hb
        have hin := of_decide_eq_true hb
        obtain ⟨k2, hk2, ek2⟩ : ∃ k2 : Nat, k2 < 36 ∧ ((k : Int) + 1) % 36 = (k2 : Int) := ⟨(k + 1) % 36, by omega, by omega⟩
        refine s_asg (v := .int (k2 : Int)) (ev_is (ev_mod (by decide) (ev_int (ev_add (ev_var rfl) ev_c)) ev_c) (by rw [ek2])) fun H6 e8 => ⟨⟨k2, _, rfl, hk2, ?_⟩, (e6.trans e7).trans e8⟩
        rcases hz with hz | ⟨hz1, hz2⟩
        · exact absurd hin hz
        · refine .inr ⟨by omega, fun s hs => ?_⟩
          by_cases c : s < t
          · exact hz2 s c
          · have : s = t := by omega
            rw [this, ← hz1]
            exact hin
      · rw [inV_one] at hb
        have hout := of_decide_eq_false hb
        exact ⟨⟨k, _, rfl, hk, .inl hout⟩, e6.trans e7⟩
    · intro σ' H' z
      obtain ⟨⟨k, u6, rfl, hk, hz⟩, e6⟩ := z
      have hout : figs.getD k 0 ∉ cs := by
        rcases hz with hz | ⟨_, hz2⟩
        · exact hz
        · exfalso
          have := nodup_sub figs cs figs_nd fun x hx => by
            obtain ⟨j, hj, ej⟩ := List.mem_iff_getElem.mp hx
            have hj36 : j < 36 := hj
            have h2 := hz2 ((j + 36 - a0) % 36) (by show _ < 36; omega)
            have e9 : (a0 + (j + 36 - a0) % 36) % 36 = j := by omega
            rw [e9, List.getD_eq_getElem?_getD, List.getElem?_eq_getElem hj] at h2
            rw [← ej]
            exact h2
          have h36 : figs.length = 36 := rfl
          omega
      refine s_app (e6 _ _ g5) (ev_var rfl) (ev_ixS (by decide) (figs_at hk) (ev_var rfl) (ev_var rfl)) (by rw [List.length_map]; omega) fun H5 e7 => ⟨⟨_, _, _, rfl⟩, ((e4.trans e5).trans (e6.trans e7)).mut hl0, cs ++ [figs.getD k 0], ?_, by rw [List.length_append, hcl]; rfl, List.nodup_append.mpr ⟨nd, by simp, fun x hx y hy e => hout (by rw [← List.mem_singleton.mp hy, ← e]; exact hx)⟩, fun c hc => ?_⟩
      · rw [List.map_append]
        exact upd_same
      · rcases List.mem_append.mp hc with hc | hc
        · exact sub c hc
        · rw [List.mem_singleton.mp hc]
          exact figs_mem hk
  · intro σ' H' z
    obtain ⟨⟨u4, u5, u6, rfl⟩, e4, cs, g4, hcl, nd, sub⟩ := z
    rw [Int.toNat_natCast] at hcl
    have hms : (cs.map fun c => tx [c]) = (cs.map fun c => SX.S [c]).map V.str := by
      rw [List.map_map]
      rfl
    refine s_retJoinX ⟨_, rfl, l, cs.map (fun c => SX.S [c]), rfl, sq_of (by rw [← hms]; exact g4), by rw [List.length_map]; omega, fun ys p hp hs hpn => ?_⟩
    rw [mt_is]
    obtain ⟨ds, rfl, hdp, hda⟩ := sorted_signs nd hp hs
    have hdl := hdp.length_eq
    have hA : Alf ds := ⟨hda, by omega, by omega, fun c hc => figs_let c (sub c (hdp.mem_iff.mp hc))⟩
    have ej : (ds.map fun c => SX.S [c]) = (ds.map fun c => [c]).map SX.S := by
      rw [List.map_map]
      rfl
    have hfl : (ds.map fun c => [c]).flatten.length ≤ 100000 := by
      rw [flat_sing]
      omega
    refine join_ok (ps := ds.map fun c => [c]) (K := K) (.inl (sq_of (by rw [map_tx, ← ej]; exact upd_same))) hfl ?_
    rw [flat_sing]
    exact q ds hA _ (e4.trans (Ex.new hpn))
theorem Alf.ex {al : List Nat} (h : Alf al) (i : Nat) : al[i % al.length]? = some (al.getD (i % al.length) 0) ∧ al.getD (i % al.length) 0 ∈ al := by
  have hl : i % al.length < al.length := Nat.mod_lt _ h.pos
  have e : al[i % al.length]? = some (al.getD (i % al.length) 0) := by
    rw [List.getD_eq_getElem?_getD, List.getElem?_eq_getElem hl]
    rfl
  exact ⟨e, List.mem_of_getElem? e⟩
/-! ### _law_free_word -/
def fwF (al : List Nat) (r : List Int) (k : Nat) : Nat := al.getD (at0 r k % (al.length : Int)).toNat 0
def fwL (al : List Nat) (r : List Int) (n : Nat) : List Nat := (List.range n).map (fwF al r)
def spFw (K : PySem.W.Frag) : Sp := fun vs H Q _ => ∃ (al : List Nat) (a : Addr) (r : List Int) (n : Nat), vs = [tx al, .ref a, .int (n : Int)] ∧ Alf al ∧ SqL K H a (r.map V.int) ∧ n ≤ r.length ∧ n ≤ 400 ∧ RetV (tx (fwL al r n)) H Q
theorem int_mod {x : Int} {n : Nat} (hn : 0 < n) : ∃ k : Nat, k < n ∧ x % (n : Int) = (k : Int) := by
  have h1 := Int.emod_nonneg x (show (n : Int) ≠ 0 by omega)
  have h2 := Int.emod_lt_of_pos x (show 0 < (n : Int) by omega)
  exact ⟨(x % (n : Int)).toNat, by omega, by omega⟩
theorem fwF_ok {al : List Nat} (h : Alf al) (r : List Int) (k : Nat) : fwF al r k ∈ al ∧ ∃ i : Nat, at0 r k % (al.length : Int) = (i : Int) ∧ al[i]? = some (fwF al r k) := by
  obtain ⟨i, hi, e⟩ := int_mod (x := at0 r k) h.pos
  have e2 : fwF al r k = al.getD i 0 := by
    unfold fwF
    rw [e, Int.toNat_natCast]
  have e3 : al[i]? = some (al.getD i 0) := by
    rw [List.getD_eq_getElem?_getD, List.getElem?_eq_getElem hi]
    rfl
  rw [e2]
  exact ⟨List.mem_of_getElem? e3, i, e, e3⟩
theorem has_fw (F : At K mg "_law_free_word" s__law_free_word) (T : Top K mg C_Cut C_Round) : Has P w K mg base "_law_free_word" s__law_free_word ["signs", "row", "many"] 1 (spFw K) := by
  obtain ⟨f, fd, F, m⟩ := F.ex
  refine ⟨f, fd, F, F.ok S__law_free_word (fun vs H Q E h => ?_) (fun cdv A outer s H vs Q E hr h => ?_), F.binds fun _ _ _ _ _ _ us hl => match us, hl with | [_, _, _], _ => rfl, m, F.kp⟩
  · obtain ⟨al, a, r, n, rfl, _⟩ := h
    rfl
  obtain ⟨al, a, r, n, rfl, hA, hR, hn, hz, q⟩ := h
  refine ⟨_, (pss_one
    (ps_ret (pe_join pe_str (pe_lc (own := [("k", 3)]) (g := gName 3) (tt := tYes) rfl S__law_free_word.nd (pi_range1 rfl T.z_range (pa_cons (pv 2) pa_nil)) (blkOk_by (N := N__law_free_word) (sc := defScope s__law_free_word) (by decide +kernel)) (fun _ _ _ _ _ => pg_name (i := 3) S__law_free_word.nd rfl (Or.inl rfl)) (fun _ _ _ _ _ => pts_nil) (fun _ _ _ _ _ => (pe_ix ix_str (pv 0) (pe_op op_mod (pe_callTy call_int1 rfl T.z_int (by decide +kernel) (pa_cons (pe_ix (r := rIxL K) ix_list (pv 1) (pv 3) (fun _ _ => rfl)) pa_nil)) (pe_callB call_len_str rfl T.z_len PySem.boot_len (pa_cons (pv 0) pa_nil))) (fun _ _ => rfl))))))), ?_⟩
  have h6 := hA.six
  have efl : ((List.range n).map fun k => [fwF al r k]).flatten = fwL al r n := by
    rw [show (fun k => [fwF al r k]) = (fun c => [c]) ∘ fwF al r from rfl, ← List.map_map, flat_sing]
    rfl
  refine s_ret (v := tx (fwL al r n)) (ev_is (ev_joinL (ps := (List.range n).map fun k => [fwF al r k]) (ev_is ev_c (by rw [mt_is])) ?_ ?_) (by rw [efl])) q
  · have g := el_lcR1 (j := 3) (vs := [3]) (σ := [some (tx al), some (.ref a), some (.int (n : Int)), none]) (H := H) (ta := tCons (tVar 2) tNil) (n := (n : Int)) (t := tYes) (fun _ => true) (fun i => tx [fwF al r i])
      (te := tOp rIxS (tVar 0) (tOp (rI (fun _ j => 0 < j) fun i j => .int (i % j)) (tCB (fun xs H Q => (∃ i, xs = [V.int i] ∧ Q (V.int i) H) ∨ ∃ k, xs = [V.bl k] ∧ Q (V.int (if k = true then 1 else 0)) H) (tCons (tOp (rIxL K) (tVar 1) (tVar 3)) tNil)) (tCB (fun vs H Q => ∃ z : Str, vs = [.str z] ∧ z.length ≤ sizeLine ∧ Q (.int (z.length : Int)) H) (tCons (tVar 0) tNil))))
      (ea_cons (ev_var rfl) ea_nil) (by omega) (fun x => rfl) (fun i H1 e1 hi => et_yes) (fun i H1 e1 hi _ => ?_)
    · rw [Int.toNat_natCast, given_all] at g
      rw [List.map_map]
      exact g
    · obtain ⟨_, k, ek, hk⟩ := fwF_ok hA r i
      exact ev_ixS (i := k) (by omega) hk (ev_var rfl) (ev_is (ev_mod (j := (al.length : Int)) (by have := hA.pos; omega) (ev_int (ev_at (ex_l e1 hR) (by omega) (ev_var rfl) (ev_var rfl))) (ev_lenS (by omega) (ev_var rfl))) (by rw [ek]))
  · rw [efl]
    unfold fwL
    rw [List.length_map, List.length_range]
    omega
theorem fwL_len {al : List Nat} {r : List Int} {n : Nat} : (fwL al r n).length = n := by
  unfold fwL
  rw [List.length_map, List.length_range]
theorem fwL_over {al : List Nat} (h : Alf al) {r : List Int} {n : Nat} : ∀ c ∈ fwL al r n, c ∈ al := fun c hc => by
  obtain ⟨k, _, rfl⟩ := List.mem_map.mp hc
  exact (fwF_ok h r k).1
theorem sv_fw {al : List Nat} {a : Addr} {r : List Int} {n : Nat} {H : Hp} (hA : Alf al) (hR : SqL K H a (r.map V.int)) (hn : n ≤ r.length) (hz : n ≤ 400) : SpV (spFw K) ([tx al, .ref a, .int (n : Int)] ++ []) H (tx (fwL al r n)) := fun _ e _ q _ => ⟨al, a, r, n, rfl, hA, ex_l e hR, hn, hz, q⟩
end
end Ver
namespace Ver
open PySem PySem.Spec PyProof.Rows L2 Evl
theorem flat_len {gs : List (List Nat)} {n : Nat} (h : ∀ g ∈ gs, g.length = n) : gs.flatten.length = gs.length * n := by
  induction gs with
  | nil => simp
  | cons g r ih =>
    rw [List.flatten_cons, List.length_append, ih fun x hx => h x (List.mem_cons_of_mem _ hx), h g (List.mem_cons_self ..), List.length_cons, Nat.add_mul, Nat.one_mul, Nat.add_comm]
theorem flat_over {al : List Nat} {gs : List (List Nat)} (h : ∀ g ∈ gs, ∀ c ∈ g, c ∈ al) : ∀ c ∈ gs.flatten, c ∈ al := fun c hc => by
  obtain ⟨g, hg, hc2⟩ := List.mem_flatten.mp hc
  exact h g hg c hc2
theorem mul_le_of {a b c : Nat} (hb : 1 ≤ b) (h : a * b ≤ c) : a ≤ c := by
  have : a * 1 ≤ a * b := Nat.mul_le_mul_left _ hb
  omega
section
variable {P : Program} {w : World} {K : PySem.W.Frag} {mg : Str → Option Value} {base : Heap} {C_Cut : Addr} {C_Round : Addr}
section
variable {σ : L2.St} {H : Hp} {ta tb tl te : TE} {tz : TS} {D : Ends}
theorem el_catR {xs ys : List V} {a : Addr} (ha : Ev ta σ H (.ref a)) (hx : H a = some (.lst xs)) (hb : EvL tb σ H ys) (hz : xs.length + ys.length ≤ 100000) : EvL (tOp rCat ta tb) σ H (xs ++ ys) := fun H1 e Q q =>
  ha H1 e _ fun H2 e2 => hb H2 (e.trans e2) _ fun p2 H3 hp2 e3 h3 =>
    ⟨a, p2, xs, ys, rfl, rfl, ((e.trans e2).trans e3) _ _ hx, h3, sz_of hz, fun l hl => q l _ (fresh_back (e2.trans e3) hl) ((e2.trans e3).trans (Ex.new hl)) upd_same⟩
theorem s_retCall {sp : Sp} {tp : TA} {vs dvs : List V} {E : XK} (h : EvA tp σ H vs) (k : ∀ H1, Ex H H1 → sp (vs ++ dvs) H1 (fun x H2 => D.rt x H2) E) : tRet (tCall sp dvs E tp) D σ H := h H (Ex.refl H) _ k
end
/-! ### _law_counting_word -/
def spCw : Sp := fun vs H Q _ => ∃ (al : List Nat) (m : Nat), vs = [tx al, .int (m : Int)] ∧ Alf al ∧ m ≤ 400 ∧ ∀ v, Word al m v → RetV (tx v) H Q
theorem has_cw (F : At K mg "_law_counting_word" s__law_counting_word) (T : Top K mg C_Cut C_Round) : Has P w K mg base "_law_counting_word" s__law_counting_word ["signs", "many"] 1 spCw := by
  obtain ⟨f, fd, F, m⟩ := F.ex
  refine ⟨f, fd, F, F.ok S__law_counting_word (fun vs H Q E h => ?_) (fun cdv A outer s H vs Q E hr h => ?_), F.binds fun _ _ _ _ _ _ us hl => match us, hl with | [_, _], _ => rfl, m, F.kp⟩
  · obtain ⟨al, n, rfl, _⟩ := h
    rfl
  obtain ⟨al, n, rfl, hA, hn, q⟩ := h
  refine ⟨_, (pss_cons
    (ps_set (i := 2) S__law_counting_word.nd rfl (Or.inl rfl) pe_str)
    (pss_cons
    (ps_set (i := 3) S__law_counting_word.nd rfl (Or.inl rfl) (pe_lst (pa_cons pe_str pa_nil)))
    (pss_cons
    (ps_for PassesOwn.never rfl (pi_range1 rfl T.z_range (pa_cons pe_int pa_nil)) (pg_name (i := 4) S__law_counting_word.nd rfl (Or.inl rfl)) (pss_cons
    (ps_if (pt_cmpR op_ge (pe_callB call_len_str rfl T.z_len PySem.boot_len (pa_cons (pv 2) pa_nil)) (pv 1) (nomark _)) (pss_one
    ps_break) pss_nil)
    (pss_cons
    (ps_set (i := 5) S__law_counting_word.nd rfl (Or.inl rfl) (pe_lst pa_nil))
    (pss_cons
    (ps_for PassesOwn.never rfl (pi_list (pv 3)) (pg_name (i := 6) S__law_counting_word.nd rfl (Or.inr rfl)) (pss_one
    (ps_if (pt_cmpR op_lt (pe_op op_add (pe_callB call_len_str rfl T.z_len PySem.boot_len (pa_cons (pv 2) pa_nil)) (pe_op op_mul (pe_callB call_len_seq rfl T.z_len PySem.boot_len (pa_cons (pv 5) pa_nil)) (pe_op op_add (pe_callB call_len_str rfl T.z_len PySem.boot_len (pa_cons (pv 6) pa_nil)) pe_int))) (pe_op op_add (pv 1) (pe_op op_mul pe_int (pe_op op_add (pe_callB call_len_str rfl T.z_len PySem.boot_len (pa_cons (pv 6) pa_nil)) pe_int))) (nomark _)) (pss_one
    (ps_set (i := 5) S__law_counting_word.nd rfl (Or.inl rfl) (pe_op op_cat (pv 5) (pe_lc (own := [("letter", 7)]) (g := gName 7) (tt := tYes) rfl S__law_counting_word.nd (pi_str (pv 0)) (blkOk_by (N := N__law_counting_word) (sc := defScope s__law_counting_word) (by decide +kernel)) (fun _ _ _ _ _ => pg_name (i := 7) S__law_counting_word.nd rfl (Or.inl rfl)) (fun _ _ _ _ _ => pts_nil) (fun _ _ _ _ _ => (pe_op op_add_str (pv 6) (pv 7))))))) pss_nil)))
    (pss_cons
    (ps_set (i := 2) S__law_counting_word.nd rfl (Or.inl rfl) (pe_op op_add_str (pv 2) (pe_join pe_str (pv 5))))
    (pss_one
    (ps_set (i := 3) S__law_counting_word.nd rfl (Or.inl rfl) (pe_callTy call_list_of rfl T.z_list (by decide +kernel) (pa_cons (pv 5) pa_nil)))))))))
    (pss_one
    (ps_ret (pe_slice sl_str (pv 2) po_none (po_some (pv 1)))))))), ?_⟩
  have h6 := hA.six
  refine q_asg (v := tx []) (ev_is ev_c (by rw [mt_is])) fun H1 e1 => ?_
  refine q_asgL (xs := [tx []]) (el_lst (ea_cons (ev_is ev_c (by rw [mt_is])) ea_nil) (by show 1 ≤ 100000; decide)) fun s0 H2 hs0 e2 g2 => ?_
  have e12 := e1.trans e2
  have fin : ∀ (σ' : L2.St) (H' : Hp) (v : List Nat) (u3 u4 u5 u6 u7 : Option V), σ' = [some (tx al), some (.int (n : Int)), some (tx v), u3, u4, u5, u6, u7] → (∀ c ∈ v, c ∈ al) → v.length ≤ 6000 → Ex H H' →
      tRet (tSl rSlS (tVar 2) tNoPart (tPart (tVar 1))) { nx := fun x H' => Q V.non H', rt := Q } σ' H' := by
    intro σ' H' v u3 u4 u5 u6 u7 hσ ho hz e
    subst hσ
    exact s_ret (ev_slS (by omega) (ev_var rfl) eo_none (eo_some (i := (n : Int)) (ev_var rfl))) fun H3 e3 => q _ (Word.cut ho (Nat.le_refl _)) H3 (e.trans e3)
  refine q_forR1 (ea_cons ev_c ea_nil) (by decide) (fun t σ' H' => ∃ (v : List Nat) (s1 : Addr) (ss : List (List Nat)) (u4 u5 u6 u7 : Option V), σ' = [some (tx al), some (.int (n : Int)), some (tx v), some (.ref s1), u4, u5, u6, u7] ∧ Ex H H' ∧ (∀ c ∈ v, c ∈ al) ∧ v.length ≤ 6000 ∧ H' s1 = some (.lst (ss.map tx)) ∧
    (∀ s ∈ ss, s.length = t ∧ ∀ c ∈ s, c ∈ al) ∧ ss.length ≤ 1000) ?_ ?_ ?_
  · intro H3 e3
    refine ⟨[], s0, [[]], none, none, none, none, rfl, e12.trans e3, fun c h => (by cases h), Nat.zero_le _, e3 _ _ g2, fun s hs => ?_, by show 1 ≤ 1000; decide⟩
    rw [List.mem_singleton.mp hs]
    exact ⟨rfl, fun c h => (by cases h)⟩
  · intro t σ' H' ht z
    obtain ⟨v, s1, ss, u4, u5, u6, u7, rfl, e3, vo, vz, g3, sf, sz⟩ := z
    have ht4 : t < 400 := by
      have : (t : Int) < 400 := ht
      omega
    refine q_when (et_ge (ev_lenS (by omega) (ev_var rfl)) (ev_var rfl)) (fun hb H3 e4 => ?_) (fun hb H3 e4 => ?_)
    · exact fin _ H3 v _ _ _ _ _ rfl vo vz (e3.trans e4)
    · have hvn : v.length < n := by
        have := of_decide_eq_false hb
        omega
      refine q_asgL (xs := ([] : List (List Nat)).map tx) (el_lst ea_nil (by decide)) fun g0 H4 hg0 e5 g4 => ?_
      have e34 := e4.trans e5
      refine q_forLn (ev_var rfl) (sq_of (e34 _ _ g3)) (fun i σ' H' => ∃ (g : Addr) (gs : List (List Nat)) (u6 u7 : Option V), σ' = [some (tx al), some (.int (n : Int)), some (tx v), some (.ref s1), some (.int (t : Int)), some (.ref g), u6, u7] ∧ Ex H H' ∧ H' s1 = some (.lst (ss.map tx)) ∧ H' g = some (.lst (gs.map tx)) ∧
        (∀ s ∈ gs, s.length = t + 1 ∧ ∀ c ∈ s, c ∈ al) ∧ gs.length * (t + 1) ≤ n + 12 * (t + 1)) ?_ ?_ ?_ ?_
      · intro H5 e6
        exact ⟨g0, [], u6, u7, rfl, (e3.trans e34).trans e6, e6 _ _ (e34 _ _ g3), e6 _ _ g4, fun s h => (by cases h), by show 0 * _ ≤ _; omega⟩
      · intro i σ' H' _ z
        obtain ⟨g, gs, u6, u7, rfl, e6, k1, _⟩ := z
        exact sq_of k1
      · intro i x σ' H' hx z
        obtain ⟨g, gs, u6, u7, rfl, e6, k1, k2, k3, k4⟩ := z
        rw [List.getElem?_map] at hx
        cases hp : ss[i]? with
        | none =>
          rw [hp] at hx
          cases hx
        | some st =>
        rw [hp] at hx
        cases hx
        obtain ⟨hsl, hso⟩ := sf st (List.mem_of_getElem? hp)
        have hgl : gs.length ≤ 5200 := Nat.le_trans (mul_le_of (by omega) k4) (by omega)
        refine s_when (et_lt (ev_add (ev_lenS (by omega) (ev_var rfl)) (ev_mulL (i := (gs.length : Int)) (by omega) (by omega) (ev_is (ev_cb (ea_cons (ev_var rfl) ea_nil) (rc_lenL (sq_of k2))) (by rw [List.length_map])) (ev_add (ev_lenS (l := st) (by omega) (ev_var rfl)) ev_c))) (ev_add (ev_var rfl) (ev_mulL (by decide) (by decide) ev_c (ev_add (ev_lenS (l := st) (by omega) (ev_var rfl)) ev_c)))) (fun hb H5 e7 => ?_) (fun hb H5 e7 => ?_)
        · have c := of_decide_eq_true hb
          rw [hsl] at c
          have em : (gs.length : Int) * ((t : Int) + 1) = ((gs.length * (t + 1) : Nat) : Int) := by
            rw [Int.natCast_mul, Int.natCast_add]
            rfl
          rw [em] at c
          have c2 : gs.length * (t + 1) < n + 6 * (t + 1) := by omega
          have hnew : (gs.length + al.length) * (t + 1) ≤ n + 12 * (t + 1) := by
            rw [Nat.add_mul]
            have : al.length * (t + 1) ≤ 6 * (t + 1) := Nat.mul_le_mul_right _ h6
            omega
          refine s_asgL (xs := (gs ++ al.map fun d => st ++ [d]).map tx) ?_ fun g' H6 hg' e8 k5 => ⟨g', gs ++ al.map (fun d => st ++ [d]), _, _, rfl, (e6.trans e7).trans e8, e8 _ _ (e7 _ _ k1), k5, fun s hs => ?_, by rw [List.length_append, List.length_map]; exact hnew⟩
          · rw [List.map_append, List.map_map]
            refine el_catR (ev_var rfl) (e7 _ _ k2) (el_lcS (x := al) (j := 7) (vs := [7]) (fun d => tx (st ++ [d])) (ev_var rfl) (by omega) (fun a => rfl) (fun i d H1 e9 hd => ?_)) (by rw [List.length_map, List.length_map]; omega)
            exact ev_catS (b := [d]) (by show st.length + 1 ≤ 100000; omega) (ev_var rfl) (ev_var rfl)
          · rcases List.mem_append.mp hs with hs | hs
            · exact k3 s hs
            · obtain ⟨d, hd, rfl⟩ := List.mem_map.mp hs
              refine ⟨by rw [List.length_append, hsl]; rfl, over_app hso fun c hc => ?_⟩
              rw [List.mem_singleton.mp hc]
              exact hd
        · exact ⟨g, gs, _, _, rfl, e6.trans e7, e7 _ _ k1, e7 _ _ k2, k3, k4⟩
      · intro σ' H' z
        obtain ⟨g, gs, u6, u7, rfl, e6, k1, k2, k3, k4⟩ := z
        have hfl := flat_len fun s hs => (k3 s hs).1
        have hfl2 : gs.flatten.length ≤ 400 + 12 * 400 := by
          rw [hfl]
          omega
        have hgl : gs.length ≤ 1000 := by
          by_cases c : t + 1 ≤ 12
          · -- few letters: bounded by the words
            have h2 : gs.length * 1 ≤ gs.length * (t + 1) := Nat.mul_le_mul_left _ (by omega)
            omega
          · have h2 : gs.length * 12 ≤ gs.length * (t + 1) := Nat.mul_le_mul_left _ (by omega)
            omega
        refine q_asg (v := tx (v ++ gs.flatten)) (ev_catS (by omega) (ev_var rfl) (ev_joinB (ev_is ev_c (by rw [mt_is])) (ev_var rfl) (.inl (sq_of k2)) (by omega))) fun H5 e7 => ?_
        refine s_asgL (el_cb (ea_cons (ev_var rfl) ea_nil) (rcl_list (sq_of (e7 _ _ k2)))) fun s2 H6 hs2 e8 k6 => ?_
        exact ⟨v ++ gs.flatten, s2, gs, _, _, _, _, rfl, (e6.trans e7).trans e8, over_app vo (flat_over fun s hs => (k3 s hs).2), by rw [List.length_append]; omega, k6, k3, hgl⟩
  · intro σ' H' z
    obtain ⟨v, s1, ss, u4, u5, u6, u7, rfl, e3, vo, vz, g3, sf, sz⟩ := z
    exact fin _ H' v _ _ _ _ _ rfl vo vz e3
end
end Ver
namespace Ver
open PySem PySem.Spec PyProof.Rows L2 Evl
/-! ### min of three numbers; an item of a written list; items by place -/
def rMin3 : List V → Hp → VK → Prop := fun xs H Q => ∃ i j k, xs = [.int i, .int j, .int k] ∧ Q (.int (min i (min j k))) H
theorem call_min3I {X : Cx} (hc : X.calm = true) : CallR X (.builtin "min") rMin3 := by
  intro pn s σ H xs us Q I r h
  obtain ⟨i, j, k, rfl, q⟩ := h
  match us, r with
  | [_, _, _], .cons ⟨t, rfl⟩ (.cons ⟨t1, rfl⟩ (.cons ⟨t2, rfl⟩ .nil)) =>
    refine min_three_ints (I.ok.hd hc) fun h' tk keep => ⟨_, H, I.kept keep, ?_, q⟩
    by_cases c1 : j < i
    · rw [if_pos c1]
      by_cases c2 : k < j
      · rw [if_pos c2]
        exact ⟨t2, by rw [show min i (min j k) = k by omega]⟩
      · rw [if_neg c2]
        exact ⟨t1, by rw [show min i (min j k) = j by omega]⟩
    · rw [if_neg c1]
      by_cases c2 : k < i
      · rw [if_pos c2]
        exact ⟨t2, by rw [show min i (min j k) = k by omega]⟩
      · rw [if_neg c2]
        exact ⟨t, by rw [show min i (min j k) = i by omega]⟩
section
variable {K : PySem.W.Frag} {σ : L2.St} {H : Hp} {ta tb tc tl : TE} {tz : TS} {D : Ends}
theorem rc_min3 {i j k : Int} : RC rMin3 [.int i, .int j, .int k] H (.int (min i (min j k))) := fun H1 _ _ q => ⟨i, j, k, rfl, q H1 (Ex.refl H1)⟩
/-- an item of a new list of ints -/
theorem ev_atN {ns : List Int} {i : Nat} {z : Int} (hl : EvL tl σ H (ns.map V.int)) (hi : i < ns.length) (hz : z = (i : Int)) (hb : ∀ H1, Ex H H1 → Ev tb σ H1 (.int z)) : Ev (tOp (rIxL K) tl tb) σ H (.int (at0 ns i)) := by
  subst hz
  exact ev_opL1 hl hb fun p H1 h _ => rv_ixL (sq_of h) (at_int hi)
/-- the numbers f 0, f 1, .. as a list -/
def nl (f : Nat → Nat) (n : Nat) : List Int := (List.range n).map fun k => (f k : Int)
theorem nl_len (f : Nat → Nat) (n : Nat) : (nl f n).length = n := by
  unfold nl
  rw [List.length_map, List.length_range]
theorem nl_at {f : Nat → Nat} {n i : Nat} (h : i < n) : at0 (nl f n) i = (f i : Int) := by
  unfold nl at0
  rw [List.getD_eq_getElem?_getD, List.getElem?_map, List.getElem?_range h]
  rfl
theorem nl_succ (f : Nat → Nat) (n : Nat) : (nl f (n + 1)).map V.int = (nl f n).map V.int ++ [V.int (f n : Int)] := by
  unfold nl
  rw [List.range_succ, List.map_append, List.map_append]
  rfl
theorem nl_congr {f g : Nat → Nat} {n : Nat} (h : ∀ k, k < n → f k = g k) : nl f n = nl g n := by
  unfold nl
  refine List.map_congr_left fun k hk => ?_
  rw [h k (List.mem_range.mp hk)]
theorem ev_nl {a : Addr} {f : Nat → Nat} {n i : Nat} {z : Int} (hs : SqL K H a ((nl f n).map V.int)) (hi : i < n) (hz : z = (i : Int)) (ha : Ev ta σ H (.ref a)) (hb : Ev tb σ H (.int z)) : Ev (tOp (rIxL K) ta tb) σ H (.int (f i : Int)) := by
  have g := ev_atI hs (by rw [nl_len]; exact hi) hz ha hb
  rw [nl_at hi] at g
  exact g
theorem nl_get (f : Nat → Nat) (n j : Nat) : ((nl f n).map V.int)[j]? = if j < n then some (.int (f j : Int)) else none := by
  unfold nl
  rw [List.getElem?_map, List.getElem?_map]
  by_cases c : j < n
  · rw [if_pos c, List.getElem?_range c]
    rfl
  · rw [if_neg c, List.getElem?_eq_none (by rw [List.length_range]; omega)]
    rfl
theorem set_nl {f : Nat → Nat} {n i x : Nat} (hi : i < n) : ((nl f n).map V.int).set i (.int (x : Int)) = (nl (fun k => if k = i then x else f k) n).map V.int := by
  refine List.ext_getElem? fun j => ?_
  rw [List.getElem?_set, nl_get, nl_get, List.length_map, nl_len]
  by_cases c : i = j
  · subst c
    rw [if_pos rfl, if_pos hi, if_pos hi, if_pos rfl]
  · rw [if_neg c]
    by_cases d : j < n
    · rw [if_pos d, if_pos d, if_neg fun e => c (Eq.symm e)]
    · rw [if_neg d, if_neg d]
theorem given_nl (f : Nat → Nat) (n : Nat) : given n (fun _ => true) (fun k => V.int (f k : Int)) = (nl f n).map V.int := by
  unfold given nl
  rw [List.filter_eq_self.mpr fun _ _ => rfl, List.map_map]
  rfl
end
open L2 Evl in
theorem ev_chainV {r r' : R2} {ta tb tc : TE} {σ : L2.St} {H : Hp} {x y z : V} {a b : Bool} (h1 : Ev ta σ H x) (h2 : Ev tb σ H y) (hr : RV r x y H (.bl a)) (h3 : a = true → Ev tc σ H z) (hr' : a = true → RV r' y z H (.bl b)) : Ev (tChain r r' ta tb tc) σ H (.bl (a && b)) := fun H1 e Q q =>
  h1 H1 e _ fun H2 e2 => h2 H2 (e.trans e2) _ fun H3 e3 => hr H3 ((e.trans e2).trans e3) _ fun H4 e4 => ⟨a, rfl, by
    have e5 := ((e.trans e2).trans e3).trans e4
    cases a with
    | false => exact ite_ff (q H4 ((e2.trans e3).trans e4))
    | true => exact ite_tt (h3 rfl H4 e5 _ fun H5 e6 => hr' rfl H5 (e5.trans e6) Q fun H6 e7 => q H6 (((((e2.trans e3).trans e4).trans e6)).trans e7))⟩
section
variable {K : PySem.W.Frag}
theorem cutV_from {xs : List V} (n : Nat) : cutV xs (some (n : Int)) none = xs.drop n := by
  unfold cutV
  rw [HT.sIx_none, HT.sIx_nat]
  by_cases h : n ≤ xs.length
  · rw [Nat.min_eq_left h]
    exact List.take_of_length_le (by rw [List.length_drop]; omega)
  · rw [Nat.min_eq_right (by omega), Nat.sub_self, List.take_zero, List.drop_eq_nil_of_le (by omega)]
theorem at0_drop {r : List Int} {n i : Nat} : at0 (r.drop n) i = at0 r (n + i) := by
  unfold at0
  rw [List.getD_eq_getElem?_getD, List.getD_eq_getElem?_getD, List.getElem?_drop]
theorem el_from {σ : L2.St} {H : Hp} {te : TE} {a : Addr} {r : List Int} {n : Nat} {i : Int} (hi : i = (n : Int)) (h : Ev te σ H (.ref a)) (hR : SqL K H a (r.map V.int)) : EvL (tSl (rSlL K) te (tPart (tC (.int i))) tNoPart) σ H ((r.drop n).map V.int) := by
  have g := el_sl (K := K) (te := te) (σ := σ) (H := H) (tl := tPart (tC (.int i))) (th := tNoPart) (lo := some i) (hi := none) h (eo_some ev_c) eo_none hR
  subst hi
  rw [cutV_from, ← List.map_drop] at g
  exact g
theorem cutV_both {xs : List V} (a b : Nat) : cutV xs (some (a : Int)) (some ((a + b : Nat) : Int)) = (xs.drop a).take b := by
  unfold cutV
  rw [HT.sIx_nat, HT.sIx_nat]
  by_cases c : a ≤ xs.length
  · rw [Nat.min_eq_left c, ← List.take_drop_min c]
  · rw [List.drop_eq_nil_of_le (show xs.length ≤ min a xs.length by omega), List.drop_eq_nil_of_le (show xs.length ≤ a by omega), List.take_nil, List.take_nil]
where
  List.take_drop_min {xs : List V} {a b : Nat} (c : a ≤ xs.length) : (xs.drop a).take b = (xs.drop a).take (min (a + b) xs.length - a) := by
    by_cases d : a + b ≤ xs.length
    · rw [Nat.min_eq_left d, Nat.add_sub_cancel_left]
    · rw [Nat.min_eq_right (by omega), List.take_of_length_le (by rw [List.length_drop]; omega), List.take_of_length_le (by rw [List.length_drop]; omega)]
theorem at0_take {r : List Int} {n i : Nat} (h : i < n) : at0 (r.take n) i = at0 r i := by
  unfold at0
  rw [List.getD_eq_getElem?_getD, List.getD_eq_getElem?_getD, List.getElem?_take_of_lt h]
theorem el_both {σ : L2.St} {H : Hp} {te t1 t2 : TE} {a : Addr} {r : List Int} {n k : Nat} (h : Ev te σ H (.ref a)) (hR : SqL K H a (r.map V.int)) (h1 : Ev t1 σ H (.int (n : Int))) (h2 : Ev t2 σ H (.int ((n + k : Nat) : Int))) : EvL (tSl (rSlL K) te (tPart t1) (tPart t2)) σ H (((r.drop n).take k).map V.int) := by
  have g := el_sl h (eo_some h1) (eo_some h2) hR
  rw [cutV_both] at g
  rw [List.map_take, List.map_drop]
  exact g
end
section
variable {K : PySem.W.Frag} {σ : L2.St} {H : Hp} {ta tb tc tl : TE} {sp : Sp} {dvs xs : List V} {E : XK} {Q : VK}
theorem el_lrg {n : Nat} (h : Ev ta σ H (.int (n : Int))) (hn : n ≤ 100000) : EvL (tLstRg (tRg1 ta)) σ H ((nl (fun k => k) n).map V.int) := fun H1 e Q q =>
  h H1 e _ fun H2 e2 => ⟨(n : Int), rfl, RgOk.of_le (by omega) (by omega) (by omega) (by omega), fun p hp => by
    have ee : rgV 0 (n : Int) = (nl (fun k => k) n).map V.int := by
      unfold rgV nl
      rw [List.map_map, show ((n : Int) - 0).toNat = n by omega]
      refine List.map_congr_left fun i _ => ?_
      show V.int (0 + (i : Int)) = V.int (i : Int)
      rw [Int.zero_add]
    rw [ee]
    exact q p _ (fresh_back e2 hp) (e2.trans (Ex.new hp)) upd_same⟩
theorem ev_sumN {ns : List Int} (h : EvL tl σ H (ns.map V.int)) : Ev (tCB (fun vs H Q => ∃ (a : Addr) (ns : List Int), vs = [V.ref a] ∧ SqL K H a (ns.map V.int) ∧ Q (V.int ns.sum) H) (tCons tl tNil)) σ H (.int ns.sum) := fun H1 e Q q =>
  h H1 e _ fun p H2 _ e2 g2 => ⟨p, ns, rfl, sq_of g2, q H2 e2⟩
theorem el_eq {ys : List V} (h : EvL tl σ H xs) (e : xs = ys) : EvL tl σ H ys := by
  rw [← e]
  exact h
theorem rv_eqv {r : R2} {x y z z' : V} (h : RV r x y H z) (e : z = z') : RV r x y H z' := by
  rw [← e]
  exact h
theorem el_catB {ys : List V} {a : Addr} (ha : Ev ta σ H (.ref a)) (hx : H a = some (.lst xs)) (hb : EvL tb σ H ys) (hz : xs.length + ys.length ≤ 100000) : EvL (tOp rCat ta tb) σ H (xs ++ ys) := fun H1 e Q q =>
  ha H1 e _ fun H2 e2 => hb H2 (e.trans e2) _ fun p H3 hp e3 h3 => ⟨a, p, xs, ys, rfl, rfl, ((e.trans e2).trans e3) _ _ hx, h3, sz_of hz, fun l hl => q l _ (fresh_back (e2.trans e3) hl) ((e2.trans e3).trans (Ex.new hl)) upd_same⟩
/-- the least, the greatest of a new list, whatever it is -/
theorem run_minN {ns : List Int} (h : EvL tl σ H (ns.map V.int)) (hp : 0 < ns.length) (k : ∀ m H1, Ex H H1 → m ∈ ns → (∀ y ∈ ns, m ≤ y) → Q (.int m) H1) : tCB (rMin K) (tCons tl tNil) σ H Q := h H (Ex.refl H) _ fun p H1 _ e g => ⟨p, ns, rfl, sq_of g, hp, fun m hm hy => k m H1 e hm hy⟩
theorem run_maxN {ns : List Int} (h : EvL tl σ H (ns.map V.int)) (hp : 0 < ns.length) (k : ∀ m H1, Ex H H1 → m ∈ ns → (∀ y ∈ ns, y ≤ m) → Q (.int m) H1) : tCB (rMax K) (tCons tl tNil) σ H Q := h H (Ex.refl H) _ fun p H1 _ e g => ⟨p, ns, rfl, sq_of g, hp, fun m hm hy => k m H1 e hm hy⟩
theorem run_c1L (hl : EvL tl σ H xs) (k : ∀ p H1, Ex H H1 → H1 p = some (.lst xs) → sp ([.ref p] ++ dvs) H1 Q E) : tCall sp dvs E (tCons tl tNil) σ H Q := hl H (Ex.refl H) _ fun p H1 _ e h1 => k p H1 e h1
theorem run_cE {x1 : V} {t1 : TE} (h1 : Ev t1 σ H x1) (hl : EvL tl σ H xs) (k : ∀ p H1, Ex H H1 → H1 p = some (.lst xs) → sp ([x1, .ref p] ++ dvs) H1 Q E) : tCall sp dvs E (tCons t1 (tCons tl tNil)) σ H Q := h1 H (Ex.refl H) _ fun H1 e1 => hl H1 e1 _ fun p H2 _ e2 g2 => k p H2 (e1.trans e2) g2
end
theorem q_asgR {te : TE} {σ : L2.St} {H : Hp} {tz : TS} {D : Ends} {i : Nat} (h : te σ H fun x H1 => tz D (σ.set i (some x)) H1) : tSeq (tAsg te (gName i)) tz D σ H := h
end Ver
namespace Ver
open PySem PySem.Spec PyProof.Rows L2 Evl
theorem over_at {al l : List Nat} {i c : Nat} (h : ∀ c ∈ l, c ∈ al) (e : l[i]? = some c) : ∀ d ∈ [c], d ∈ al := fun d hd => by
  rw [List.mem_singleton.mp hd]
  exact h c (List.mem_of_getElem? e)
theorem get_ex {l : List Nat} {i : Nat} (h : i < l.length) : l[i]? = some (l.getD i 0) := by
  rw [List.getD_eq_getElem?_getD, List.getElem?_eq_getElem h]
  rfl
section
variable {P : Program} {w : World} {K : PySem.W.Frag} {mg : Str → Option Value} {base : Heap} {C_Cut : Addr} {C_Round : Addr}
theorem ev_fw {σ : L2.St} {H : Hp} {ta tb tc : TE} {al : List Nat} {r : List Int} {n : Nat} (hA : Alf al) (h : Ev ta σ H (tx al)) (hl : EvL tb σ H (r.map V.int)) (h3 : ∀ H1, Ex H H1 → Ev tc σ H1 (.int (n : Int))) (hn : n ≤ r.length) (hz : n ≤ 400) :
    Ev (tCall (spFw K) [] E0 (tCons ta (tCons tb (tCons tc tNil)))) σ H (tx (fwL al r n)) := ev_call3L h hl h3 fun p H1 e h1 => sv_fw hA (sq_of h1) hn hz
/-! ### _law_word -/
structure WRow (r : List Int) : Prop where
  len : r.length = 49
  b0 : 0 ≤ at0 r 0 ∧ at0 r 0 < 12
  b1 : 0 ≤ at0 r 1 ∧ at0 r 1 < 46
  bs : ∀ i, 3 ≤ i → i < 49 → 0 ≤ at0 r i ∧ at0 r i < 6
def spWd (K : PySem.W.Frag) : Sp := fun vs H Q _ => ∃ (al : List Nat) (a : Addr) (r : List Int), vs = [tx al, .ref a, .int 45] ∧ Alf al ∧ SqL K H a (r.map V.int) ∧ WRow r ∧ ∀ v, Word al 45 v → RetV (tx v) H Q
theorem has_wd (F : At K mg "_law_word" s__law_word) (T : Top K mg C_Cut C_Round) (h1 : Has P w K mg base "_law_free_word" s__law_free_word ["signs", "row", "many"] 1 (spFw K)) (h2 : Has P w K mg base "_law_counting_word" s__law_counting_word ["signs", "many"] 1 spCw) :
    Has P w K mg base "_law_word" s__law_word ["signs", "row", "most"] 2 (spWd K) := by
  obtain ⟨f, fd, F, m⟩ := F.ex
  obtain ⟨f1, fd1, _, G__law_free_word, b__law_free_word, m__law_free_word, k__law_free_word⟩ := h1
  obtain ⟨f2, fd2, _, G__law_counting_word, b__law_counting_word, m__law_counting_word, k__law_counting_word⟩ := h2
  refine ⟨f, fd, F, F.ok S__law_word (fun vs H Q E h => ?_) (fun cdv A outer s H vs Q E hr h => ?_), F.binds fun _ _ _ _ _ _ us hl => match us, hl with | [_, _, _], _ => rfl, m, F.kp⟩
  · obtain ⟨al, a, r, rfl, _⟩ := h
    rfl
  obtain ⟨al, a, r, rfl, hA, hR, ⟨hl, b0, b1, bs⟩, q⟩ := h
  refine ⟨_, (pss_cons
    (ps_set (i := 3) S__law_word.nd rfl (Or.inl rfl) (pe_callB (call_min2 rfl) rfl T.z_min (by decide +kernel) (pa_cons (pv 2) (pa_cons (pe_ix (r := rIxL K) ix_list (pv 1) pe_int (fun _ _ => rfl)) pa_nil))))
    (pss_cons
    (ps_set (i := 4) S__law_word.nd rfl (Or.inr rfl) (pe_call G__law_free_word (hr.mono (by decide)) rfl m__law_free_word k__law_free_word b__law_free_word .nil pass0 (pa_cons (pv 0) (pa_cons (pe_slice sl_list (pv 1) (po_some pe_int) po_none) (pa_cons pe_int pa_nil)))))
    (pss_cons
    (ps_set (i := 5) S__law_word.nd rfl (Or.inl rfl) (pe_ix (r := rIxL K) ix_list (pv 1) pe_int (fun _ _ => rfl)))
    (pss_cons
    (ps_if (pt_cmpR op_lt (pv 5) pe_int (nomark _)) (pss_one
    (ps_ret (pe_slice sl_str (pv 4) po_none (po_some (pv 3))))) pss_nil)
    (pss_cons
    (ps_if (pt_cmpR op_lt (pv 5) pe_int (nomark _)) (pss_one
    (ps_ret (pe_slice sl_str (pe_op op_mulS (pe_slice sl_str (pv 4) po_none (po_some (pe_op op_add pe_int (pe_op op_mod (pe_callTy call_int1 rfl T.z_int (by decide +kernel) (pa_cons (pe_ix (r := rIxL K) ix_list (pv 1) pe_int (fun _ _ => rfl)) pa_nil)) pe_int)))) pe_int) po_none (po_some (pv 3))))) pss_nil)
    (pss_cons
    (ps_if (pt_cmpR op_eq (pv 5) pe_int (nomark _)) (pss_one
    (ps_ret (pe_slice sl_str (pe_join pe_str (pe_lc (own := [("k", 6)]) (g := gName 6) (tt := tYes) rfl S__law_word.nd (pi_range1 rfl T.z_range (pa_cons pe_int pa_nil)) (blkOk_by (N := N__law_word) (sc := defScope s__law_word) (by decide +kernel)) (fun _ _ _ _ _ => pg_name (i := 6) S__law_word.nd rfl (Or.inl rfl)) (fun _ _ _ _ _ => pts_nil) (fun _ _ _ _ _ => (pe_op op_mulS (pe_ix ix_str (pv 4) (pv 6) (fun _ _ => rfl)) (pe_op op_add pe_int (pe_callTy call_int1 rfl T.z_int (by decide +kernel) (pa_cons (pe_ix (r := rIxL K) ix_list (pv 1) (pe_op op_add pe_int (pv 6)) (fun _ _ => rfl)) pa_nil))))))) po_none (po_some (pv 3))))) pss_nil)
    (pss_cons
    (ps_if (pt_cmpR op_eq (pv 5) pe_int (nomark _)) (pss_one
    (ps_ret (pe_call G__law_counting_word (hr.mono (by decide)) rfl m__law_counting_word k__law_counting_word b__law_counting_word .nil pass0 (pa_cons (pv 0) (pa_cons (pv 3) pa_nil))))) pss_nil)
    (pss_cons
    (ps_if (pt_cmpR op_eq (pv 5) pe_int (nomark _)) (pss_cons
    (ps_set (i := 7) S__law_word.nd rfl (Or.inl rfl) (pe_slice sl_str (pv 4) po_none (po_some pe_int)))
    (pss_cons
    (ps_for PassesOwn.never rfl (pi_range1 rfl T.z_range (pa_cons pe_int pa_nil)) (pg_name (i := 6) S__law_word.nd rfl (Or.inl rfl)) (pss_one
    (ps_set (i := 7) S__law_word.nd rfl (Or.inl rfl) (pe_op op_add_str (pe_op op_add_str (pv 7) (pe_ix ix_str (pv 4) (pe_op op_add pe_int (pv 6)) (fun _ _ => rfl))) (pv 7)))))
    (pss_one
    (ps_ret (pe_slice sl_str (pv 7) po_none (po_some (pv 3))))))) pss_nil)
    (pss_cons
    (ps_if (pt_cmpR op_eq (pv 5) pe_int (nomark _)) (pss_one
    (ps_ret (pe_slice sl_str (pe_op op_add_str (pe_slice sl_str (pe_op op_mulS (pe_slice sl_str (pv 4) po_none (po_some pe_int)) pe_int) po_none (po_some (pe_op op_mod (pe_callTy call_int1 rfl T.z_int (by decide +kernel) (pa_cons (pe_ix (r := rIxL K) ix_list (pv 1) pe_int (fun _ _ => rfl)) pa_nil)) pe_int))) (pv 4)) po_none (po_some (pv 3))))) pss_nil)
    (pss_one
    (ps_ret (pe_slice sl_str (pe_op op_mulS (pe_ix ix_str (pv 4) pe_int (fun _ _ => rfl)) pe_int) po_none (po_some (pv 3)))))))))))))), ?_⟩
  obtain ⟨n, hn, en⟩ : ∃ n : Nat, n ≤ 45 ∧ min 45 (at0 r 1) = (n : Int) := ⟨(min 45 (at0 r 1)).toNat, by omega, by omega⟩
  refine q_asg (v := .int (n : Int)) (ev_is (ev_cb (ea_cons (ev_var rfl) (ea_cons (ev_atI hR (i := 1) (by omega) rfl (ev_var rfl) ev_c) ea_nil)) rc_min) (by rw [en])) fun H1 e1 => ?_
  have hR1 := ex_l e1 hR
  refine q_asg (ev_fw (r := r.drop 3) (n := 46) hA (ev_var rfl) (el_from (n := 3) rfl (ev_var rfl) hR1) (fun _ _ => ev_c) (by rw [List.length_drop]; omega) (by decide)) fun H2 e2 => ?_
  have fo := fwL_over hA (r := r.drop 3) (n := 46)
  have fl := fwL_len (al := al) (r := r.drop 3) (n := 46)
  generalize fwL al (r.drop 3) 46 = fr at fo fl ⊢
  have hR2 := ex_l e2 hR1
  refine q_asg (ev_atI hR2 (i := 0) (by omega) rfl (ev_var rfl) ev_c) fun H3 e3 => ?_
  have hR3 := ex_l e3 hR2
  have e13 := (e1.trans e2).trans e3
  -- each way gives a beginning of a text over al
  have out : ∀ {te : TE} {σ : L2.St} {H' : Hp} {v : List Nat}, Ex H H' → Ev te σ H' (tx v) → (∀ c ∈ v, c ∈ al) → v.length ≤ 100000 → σ[3]? = some (some (.int (n : Int))) → tRet (tSl rSlS te tNoPart (tPart (tVar 3))) { nx := fun x H' => Q V.non H', rt := Q } σ H' :=
    fun e h ho hz hs => s_ret (ev_slS hz h eo_none (eo_some (i := (n : Int)) (ev_var hs))) fun H5 e5 => q _ (Word.cut ho hn) H5 (e.trans e5)
  refine q_when (et_lt (ev_var rfl) ev_c) (fun hb H4 e4 => ?_) (fun hb H4 e4 => ?_)
  · exact out (e13.trans e4) (ev_var rfl) fo (by omega) rfl
  have e14 := e13.trans e4
  refine q_when (et_lt (ev_var rfl) ev_c) (fun hb H5 e5 => ?_) (fun hb H5 e5 => ?_)
  · obtain ⟨k, hk, ek⟩ := int_mod (x := at0 r 2) (n := 5) (by decide)
    have ek : at0 r 2 % 5 = (k : Int) := ek
    refine out (e14.trans e5) (ev_mulS (l := cutL fr none (some ((1 + k : Nat) : Int))) (n := 46) (by decide) ?_ (ev_slS (by omega) (ev_var rfl) eo_none (eo_some (ev_is (ev_add ev_c (ev_mod (by decide) (ev_int (ev_atI (ex_l (e4.trans e5) hR3) (i := 2) (by omega) rfl (ev_var rfl) ev_c)) ev_c)) ?_))) ev_c) (over_rep (over_cut fo)) ?_ rfl
    · have := cutL_len (l := fr) (lo := none) (hi := some ((1 + k : Nat) : Int))
      omega
    · rw [ek, Int.natCast_add]
      rfl
    · rw [rep_len]
      have := cutL_len (l := fr) (lo := none) (hi := some ((1 + k : Nat) : Int))
      omega
  have e15 := e14.trans e5
  have hR5 := ex_l (e4.trans e5) hR3
  refine q_when (et_eqI (ev_var rfl) ev_c) (fun hb H6 e6 => ?_) (fun hb H6 e6 => ?_)
  · let g : Nat → List Nat := fun k => (List.replicate (1 + (at0 r (15 + k)).toNat) [fr.getD k 0]).flatten
    have hg : ∀ k, k < 12 → (∀ c ∈ g k, c ∈ al) ∧ (g k).length ≤ 7 := fun k hk => by
      have := bs (15 + k) (by omega) (by omega)
      refine ⟨over_rep (over_at fo (get_ex (by omega))), ?_⟩
      show (List.replicate _ _).flatten.length ≤ 7
      rw [rep_len]
      show _ * 1 ≤ 7
      omega
    have hfl : ((List.range 12).map g).flatten.length ≤ 84 := by
      have k7 : ∀ n, n ≤ 12 → ((List.range n).map g).flatten.length ≤ 7 * n := by
        intro n
        induction n with
        | zero => intro _; exact Nat.le_refl 0
        | succ n ih =>
          intro h
          have := ih (by omega)
          have := (hg n (by omega)).2
          rw [List.range_succ, List.map_append, List.flatten_append, List.length_append]
          have e1 : ([n].map g).flatten.length = (g n).length := by simp
          rw [e1]
          omega
      exact k7 12 (Nat.le_refl _)
    refine out (e15.trans e6) (ev_joinL (ps := (List.range 12).map g) (ev_is ev_c (by rw [mt_is])) ?_ (by omega)) (flat_over fun s hs => ?_) (by omega) rfl
    · have gg := el_lcR1 (j := 6) (vs := [6]) (σ := [some (tx al), some (.ref a), some (.int 45), some (.int (n : Int)), some (tx fr), some (.int (at0 r 0)), none, none]) (H := H6) (ta := tCons (tC (.int 12)) tNil) (n := 12) (t := tYes) (fun _ => true) (fun i => tx (g i))
        (te := tOp rMulS (tOp rIxS (tVar 4) (tVar 6)) (tOp (rI0 fun i j => .int (i + j)) (tC (.int 1)) (tCB (fun xs H Q => (∃ i, xs = [V.int i] ∧ Q (V.int i) H) ∨ ∃ k, xs = [V.bl k] ∧ Q (V.int (if k = true then 1 else 0)) H) (tCons (tOp (rIxL K) (tVar 1) (tOp (rI0 fun i j => .int (i + j)) (tC (.int 15)) (tVar 6))) tNil))))
        (ea_cons ev_c ea_nil) (by decide) (fun x => rfl) (fun i H1 e1 hi => et_yes) (fun i H1 e1 hi _ => ?_)
      · rw [show (12 : Int).toNat = 12 from rfl, given_all] at gg
        rw [List.map_map]
        exact gg
      · have hi2 : i < 12 := by omega
        have := bs (15 + i) (by omega) (by omega)
        refine ev_mulS (l := [fr.getD i 0]) (n := 1 + (at0 r (15 + i)).toNat) (by omega) (by show 1 * _ ≤ 100000; omega) (ev_ixS (by omega) (get_ex (by omega)) (ev_var rfl) (ev_var rfl)) (ev_is (ev_add ev_c (ev_int (ev_atI (ex_l (e6.trans e1) hR5) (i := 15 + i) (by omega) (by omega) (ev_var rfl) (ev_add ev_c (ev_var rfl))))) ?_)
        congr 1
        omega
    · obtain ⟨k, hk, rfl⟩ := List.mem_map.mp hs
      exact (hg k (List.mem_range.mp hk)).1
  have e16 := e15.trans e6
  have hR6 := ex_l e6 hR5
  refine q_when (et_eqI (ev_var rfl) ev_c) (fun hb H7 e7 => ?_) (fun hb H7 e7 => ?_)
  · refine s_retCall (vs := [tx al, .int (n : Int)]) (ea_cons (ev_var rfl) (ea_cons (ev_var rfl) ea_nil)) fun H8 e8 => ⟨al, n, rfl, hA, by omega, fun v hv H9 e9 => q v ⟨hv.over, Nat.le_trans hv.len hn⟩ H9 (((e16.trans e7).trans e8).trans e9)⟩
  have e17 := e16.trans e7
  have hR7 := ex_l e7 hR6
  refine q_when (et_eqI (ev_var rfl) ev_c) (fun hb H8 e8 => ?_) (fun hb H8 e8 => ?_)
  · refine q_asg (ev_slS (by omega) (ev_var rfl) eo_none (eo_some (i := ((2 : Nat) : Int)) ev_c)) fun H9 e9 => ?_
    refine q_forR1 (ea_cons ev_c ea_nil) (by decide) (fun i σ' H' => ∃ (v : List Nat) (u6 : Option V), σ' = [some (tx al), some (.ref a), some (.int 45), some (.int (n : Int)), some (tx fr), some (.int (at0 r 0)), u6, some (tx v)] ∧ Ex H H' ∧ (∀ c ∈ v, c ∈ al) ∧ v.length + 1 ≤ 3 * 2 ^ i) ?_ ?_ ?_
    · intro H10 e10
      refine ⟨cutL fr none (some ((2 : Nat) : Int)), none, rfl, ((e17.trans e8).trans e9).trans e10, over_cut fo, ?_⟩
      rw [cutL_to, List.length_take]
      show min 2 _ + 1 ≤ 3 * 1
      omega
    · intro i σ' H' hi z
      obtain ⟨v, u6, rfl, e10, vo, vz⟩ := z
      have hi2 : i < 5 := by
        have : (i : Int) < 5 := hi
        omega
      have hp : 2 ^ i ≤ 2 ^ 5 := Nat.pow_le_pow_right (by decide) (by omega)
      have hp5 : (2 : Nat) ^ 5 = 32 := rfl
      have hge := get_ex (l := fr) (i := 2 + i) (by omega)
      refine s_asg (ev_catS (a := v ++ [fr.getD (2 + i) 0]) (by rw [List.length_append]; show _ + 1 + _ ≤ _; omega) (ev_catS (b := [fr.getD (2 + i) 0]) (by show _ + 1 ≤ _; omega) (ev_var rfl) (ev_ixS (i := 2 + i) (by omega) hge (ev_var rfl) (ev_is (ev_add ev_c (ev_var rfl)) (by rw [Int.natCast_add]; rfl)))) (ev_var rfl)) fun H11 e11 => ⟨_, _, rfl, e10.trans e11, over_app (over_app vo (over_at fo hge)) vo, ?_⟩
      rw [List.length_append, List.length_append, Nat.pow_succ]
      show v.length + 1 + v.length + 1 ≤ _
      omega
    · intro σ' H' z
      obtain ⟨v, u6, rfl, e10, vo, vz⟩ := z
      have hp5 : (2 : Nat) ^ (5 : Int).toNat = 32 := rfl
      exact out e10 (ev_var rfl) vo (by omega) rfl
  have e18 := e17.trans e8
  have hR8 := ex_l e8 hR7
  refine q_when (et_eqI (ev_var rfl) ev_c) (fun hb H9 e9 => ?_) (fun hb H9 e9 => ?_)
  · obtain ⟨k, hk, ek⟩ := int_mod (x := at0 r 2) (n := 20) (by decide)
    have ek : at0 r 2 % 20 = (k : Int) := ek
    have c3 := cutL_len (l := fr) (lo := none) (hi := some 3)
    have hrl : (List.replicate 10 (cutL fr none (some 3))).flatten.length ≤ 460 := by
      rw [rep_len]
      omega
    have hcl := cutL_len (l := (List.replicate 10 (cutL fr none (some 3))).flatten) (lo := none) (hi := some (k : Int))
    refine out (e18.trans e9) (ev_catS (b := fr) (by omega) (ev_slS (l := (List.replicate 10 (cutL fr none (some 3))).flatten) (by omega) (ev_mulS (n := 10) (by decide) (by omega) (ev_slS (by omega) (ev_var rfl) eo_none (eo_some ev_c)) ev_c) eo_none (eo_some (i := (k : Int)) (ev_is (ev_mod (by decide) (ev_int (ev_atI (ex_l e9 hR8) (i := 2) (by omega) rfl (ev_var rfl) ev_c)) ev_c) (by rw [ek])))) (ev_var rfl)) (over_app (over_cut (over_rep (over_cut fo))) fo) (by rw [List.length_append]; omega) rfl
  · have hge := get_ex (l := fr) (i := 0) (by omega)
    exact out (e18.trans e9) (ev_mulS (l := [fr.getD 0 0]) (n := 46) (by decide) (by show 1 * 46 ≤ 100000; decide) (ev_ixS (i := 0) (by omega) hge (ev_var rfl) ev_c) ev_c) (over_rep (over_at fo hge)) (by rw [rep_len]; show 46 * 1 ≤ 100000; decide) rfl
end
end Ver
namespace Ver
open PySem PySem.Spec PyProof.Rows L2 Evl
section
variable {P : Program} {w : World} {K : PySem.W.Frag} {mg : Str → Option Value} {base : Heap} {C_Cut : Addr} {C_Round : Addr}
def spLw4 : Sp := fun vs H Q _ => ∃ n : Int, vs = [.int n] ∧ 1 ≤ n ∧ n ≤ 2 ^ 400 ∧ RetV (.int (bitsOf n)) H Q
theorem has_lw4 (F : At K mg "_law_width" s__law_width) (T : Top K mg C_Cut C_Round) : Has P w K mg base "_law_width" s__law_width ["many"] 1 spLw4 := by
  obtain ⟨f, fd, F, m⟩ := F.ex
  refine ⟨f, fd, F, F.ok S__law_width (fun vs H Q E h => ?_) (fun cdv A outer s H vs Q E hr h => ?_), F.binds fun _ _ _ _ _ _ us hl => match us, hl with | [_], _ => rfl, m, F.kp⟩
  · obtain ⟨n, rfl, _⟩ := h
    rfl
  obtain ⟨n, rfl, h1, h2, q⟩ := h
  generalize hB : (2 : Int) ^ 400 = B at h2
  refine ⟨_, (pss_cons
    (ps_set (i := 1) S__law_width.nd rfl (Or.inl rfl) pe_int)
    (pss_cons
    (ps_set (i := 2) S__law_width.nd rfl (Or.inl rfl) pe_int)
    (pss_cons
    (ps_for PassesOwn.never rfl (pi_range1 rfl T.z_range (pa_cons pe_int pa_nil)) (pg_name (i := 3) S__law_width.nd rfl (Or.inl rfl)) (pss_cons
    (ps_if (pt_cmpR op_ge (pv 2) (pv 0) (nomark _)) (pss_one
    ps_break) pss_nil)
    (pss_cons
    (ps_set (i := 2) S__law_width.nd rfl (Or.inl rfl) (pe_op op_mul (pv 2) pe_int))
    (pss_one
    (ps_set (i := 1) S__law_width.nd rfl (Or.inl rfl) (pe_op op_add (pv 1) pe_int))))))
    (pss_one
    (ps_ret (pv 1)))))), ?_⟩
  refine q_asg ev_c fun H1 e1 => ?_
  refine q_asg ev_c fun H2 e2 => ?_
  refine q_forR1 (ea_cons ev_c ea_nil) (by decide) (fun i σ' H' => (∃ u, σ' = [some (.int n), some (.int (i : Int)), some (.int (2 ^ i)), u]) ∧ Ex H H' ∧ (i = 0 ∨ ∃ j, i = j + 1 ∧ (2 : Int) ^ j < n)) ?_ ?_ ?_
  · intro H3 e3
    exact ⟨⟨none, rfl⟩, (e1.trans e2).trans e3, .inl rfl⟩
  · intro i σ' H' hi z
    obtain ⟨⟨u, rfl⟩, e3, hj⟩ := z
    refine q_when (et_ge (ev_var rfl) (ev_var rfl)) (fun hb H4 e4 => ?_) (fun hb H4 e4 => ?_)
    · have c : n ≤ 2 ^ i := of_decide_eq_true hb
      refine s_ret (ev_var rfl) fun H5 e5 => ?_
      rw [bits_is h1 c hj] at q
      exact q H5 ((e3.trans e4).trans e5)
    · have c : ¬ n ≤ 2 ^ i := of_decide_eq_false hb
      refine q_asg (ev_mulR (by decide) (by decide) (ev_var rfl) ev_c) fun H5 e5 => ?_
      refine s_asg (ev_add (ev_var rfl) ev_c) fun H6 e6 => ⟨⟨some (.int (i : Int)), ?_⟩, ((e3.trans e4).trans e5).trans e6, .inr ⟨i, rfl, by omega⟩⟩
      rw [Int.pow_succ]
      rfl
  · intro σ' H' z
    obtain ⟨⟨u, rfl⟩, e3, hj⟩ := z
    refine s_ret (ev_var rfl) fun H5 e5 => ?_
    have c : n ≤ 2 ^ (400 : Int).toNat := by
      rw [show (400 : Int).toNat = 400 from rfl, hB]
      exact h2
    rw [bits_is h1 c hj] at q
    exact q H5 (e3.trans e5)
theorem sv_lw4b {n : Nat} {H : Hp} (h1 : 1 ≤ n) (h2 : n ≤ 1000000000000000000000000000000000000000000000000000000000000) : SpV spLw4 ([V.int (n : Int)] ++ []) H (.int (wid n : Int)) := fun _ _ _ q _ => ⟨(n : Int), rfl, by omega, Int.le_trans (show (n : Int) ≤ 1000000000000000000000000000000000000000000000000000000000000 by omega) (by decide +kernel), by
    have e : bitsOf (n : Int) = (wid n : Int) := by
      have := bits_nn (n : Int)
      unfold wid
      omega
    rw [e]
    exact q⟩
theorem sv_lw4 {n : Nat} {H : Hp} (h1 : 1 ≤ n) (h2 : n ≤ 131072) : SpV spLw4 ([V.int (n : Int)] ++ []) H (.int (wid n : Int)) := fun _ _ _ q _ => ⟨(n : Int), rfl, by omega, Int.le_trans (show (n : Int) ≤ 131072 by omega) (by decide +kernel), by
    have e : bitsOf (n : Int) = (wid n : Int) := by
      have := bits_nn (n : Int)
      unfold wid
      omega
    rw [e]
    exact q⟩
end
end Ver
namespace Ver
open PySem PySem.Spec PyProof.Rows L2 Evl
section
variable {P : Program} {w : World} {K : PySem.W.Frag} {mg : Str → Option Value} {base : Heap} {C_Cut : Addr} {C_Round : Addr}
/-! ### is_alphabet -/
def lets : List Nat := [48, 49, 50, 51, 52, 53, 54, 55, 56, 57, 97, 98, 99, 100, 101, 102, 103, 104, 105, 106, 107, 108, 109, 110, 111, 112, 113, 114, 115, 116, 117, 118, 119, 120, 121, 122]
theorem lets_is : Str.ofString "0123456789abcdefghijklmnopqrstuvwxyz" = SX.S lets := by decide +kernel
theorem nil_is : Str.ofString "" = SX.S [] := by decide +kernel
theorem let_mem {c : Nat} (h : (48 ≤ c ∧ c ≤ 57) ∨ (97 ≤ c ∧ c ≤ 122)) : c ∈ lets := by
  have k : ∀ d, d < 123 → ((48 ≤ d ∧ d ≤ 57) ∨ (97 ≤ d ∧ d ≤ 122)) → d ∈ lets := by decide +kernel
  exact k c (by omega) h
def spIsAl : Sp := fun vs H Q _ => ∃ al : List Nat, vs = [tx al] ∧ Alf al ∧ RetV (.bl true) H Q
theorem has_isal (F : At K mg "is_alphabet" s_is_alphabet) (T : Top K mg C_Cut C_Round) : Has P w K mg base "is_alphabet" s_is_alphabet ["string"] 1 spIsAl := by
  obtain ⟨f, fd, F, m⟩ := F.ex
  obtain ⟨tL, g_LETTERS⟩ := T.g_LETTERS
  obtain ⟨tM, g_MOST_LETTERS⟩ := T.g_MOST_LETTERS
  refine ⟨f, fd, F, F.ok S_is_alphabet (fun vs H Q E h => ?_) (fun cdv A outer s H vs Q E hr h => ?_), F.binds fun _ _ _ _ _ _ us hl => match us, hl with | [_], _ => rfl, m, F.kp⟩
  · obtain ⟨al, rfl, _⟩ := h
    rfl
  obtain ⟨al, rfl, hA, q⟩ := h
  refine ⟨_, (pss_cons
    (ps_if (PW.pt (pw_or (pt_cmpR op_lt (pe_callB call_len_str rfl T.z_len PySem.boot_len (pa_cons (pv 0) pa_nil)) pe_int (nomark _)) (pw_or1 (pt_cmpR op_gt (pe_callB call_len_str rfl T.z_len PySem.boot_len (pa_cons (pv 0) pa_nil)) (pe_glob (v := .int 6) rfl g_MOST_LETTERS ⟨_, rfl⟩) (nomark _))))) (pss_one
    (ps_ret pe_bl)) pss_nil)
    (pss_cons
    (ps_if (pt_cmpR op_ne (pe_bm PySem.F.plainAttrs_str PySem.F.slot_str_strip PySem.F.type_str_strip mt_stripChars (pv 0) (pa_cons (pe_glob (v := .str (Str.ofString "0123456789abcdefghijklmnopqrstuvwxyz")) rfl g_LETTERS ⟨_, rfl⟩) pa_nil)) pe_str (nomark _)) (pss_one
    (ps_ret pe_bl)) pss_nil)
    (pss_one
    (ps_ret (pe_callB (cr_all rfl) rfl T.z_all (by decide +kernel) (pa_cons (pe_lc (own := [("one", 1), ("two", 2)]) (g := gTup K 2 (gCons (gName 1) (gCons (gName 2) gNil))) (tt := tYes) rfl S_is_alphabet.nd (pi_zipS rfl T.z_zip (pa_cons (pv 0) (pa_cons (pe_slice sl_str (pv 0) (po_some pe_int) po_none) pa_nil))) (blkOk_by (N := N_is_alphabet) (sc := defScope s_is_alphabet) (by decide +kernel)) (fun _ _ _ _ _ => pg_tup rfl (pgs_cons (pg_name (i := 1) S_is_alphabet.nd rfl (Or.inl rfl)) (pgs_cons (pg_name (i := 2) S_is_alphabet.nd rfl (Or.inl rfl)) pgs_nil))) (fun _ _ _ _ _ => pts_nil) (fun _ _ _ _ _ => (pe_cmpR op_lt_str (pv 1) (pv 2) (nomark _)))) pa_nil)))))), ?_⟩
  have h6 := hA.six
  have h1 := hA.pos
  refine q_skip (et_is (et_or (et_lt (ev_lenS (by omega) (ev_var rfl)) ev_c) (fun _ => et_gt (ev_lenS (by omega) (ev_var rfl)) ev_c)) (by rw [decide_eq_false (show ¬ (al.length : Int) < 1 by omega), decide_eq_false (show ¬ (6 : Int) < (al.length : Int) by omega)]; rfl)) fun H1 e1 => ?_
  have hst : Txt.stripChars (SX.S al) (Str.ofString "0123456789abcdefghijklmnopqrstuvwxyz") = SX.S [] := by
    rw [lets_is]
    exact strip_chars fun c hc => let_mem (hA.let' c hc)
  refine q_skip (et_is (et_test (ev_op (ev_bm (z := tx []) (ev_var rfl) (fun _ _ => rfl) (ea_cons ev_c ea_nil) fun H2 _ Q' q' => ⟨SX.S al, _, rfl, rfl, by rw [SX.S_len]; exact sz_of (by omega), by rw [hst]; exact q' H2 (Ex.refl H2)⟩) ev_c (rv_ne rfl))) (by rw [nil_is]; simp)) fun H2 e2 => ?_
  refine s_ret (ev_is (ev_allN (bs := (List.range (min al.length (al.drop 1).length)).map fun i => decide (al.getD i 0 < (al.drop 1).getD i 0)) ?_) ?_) fun H3 e3 => q H3 ((e1.trans e2).trans e3)
  · have g := el_lcZ (K := K) (σ := [some (tx al), none, none]) (H := H2) (x := al) (y := al.drop 1) (tp := tCons (tVar 0) (tCons (tSl rSlS (tVar 0) (tPart (tC (.int 1))) tNoPart) tNil)) (j1 := 1) (j2 := 2) (vs := [1, 2]) (te := tOp (fun x y H Q => ∃ i j : Str, x = .str i ∧ y = .str j ∧ Q (.bl (decide (i.cps.toList < j.cps.toList))) H) (tVar 1) (tVar 2))
      (fun i => V.bl (decide (al.getD i 0 < (al.drop 1).getD i 0)))
      (ea_cons (ev_var rfl) (ea_cons (ev_is (ev_slS (by omega) (ev_var rfl) (eo_some (i := ((1 : Nat) : Int)) ev_c) eo_none) (by rw [cutL_from])) ea_nil)) (by omega) (fun a b => rfl) (fun i c d H3 e3 hc hd => ?_)
    · rw [List.map_map]
      exact g
    · have ec : al.getD i 0 = c := by
        rw [List.getD_eq_getElem?_getD, hc]
        rfl
      have ed : (al.drop 1).getD i 0 = d := by
        rw [List.getD_eq_getElem?_getD, hd]
        rfl
      rw [ec, ed]
      refine ev_is (ev_op (ev_var rfl) (ev_var rfl) rv_ltS) ?_
      congr 1
      refine decide_eq_decide.mpr ?_
      constructor
      · intro h
        cases h with
        | rel h => exact h
        | cons h => cases h
      · exact fun h => List.Lex.rel h
  · congr 1
    rw [List.all_eq_true]
    intro b hb
    obtain ⟨i, hi, rfl⟩ := List.mem_map.mp hb
    have hi := List.mem_range.mp hi
    have hl : (al.drop 1).length = al.length - 1 := List.length_drop
    show decide _ = true
    refine decide_eq_true ?_
    rw [List.getD_eq_getElem?_getD, List.getD_eq_getElem?_getD, List.getElem?_drop, List.getElem?_eq_getElem (by omega), List.getElem?_eq_getElem (by omega)]
    exact List.pairwise_iff_getElem.mp hA.asc i (1 + i) (by omega) (by omega) (by omega)
theorem sv_isal {al : List Nat} {H : Hp} (h : Alf al) : SpV spIsAl ([tx al] ++ []) H (.bl true) := fun _ _ _ q _ => ⟨al, rfl, h, q⟩
/-! ### is_letter, is_whole -/
def spLet : Sp := fun vs H Q _ => ∃ (al : List Nat) (c : Nat), vs = [tx al, tx [c]] ∧ c ∈ al ∧ RetV (.bl true) H Q
theorem has_let (F : At K mg "is_letter" s_is_letter) (T : Top K mg C_Cut C_Round) : Has P w K mg base "is_letter" s_is_letter ["alphabet", "value"] 1 spLet := by
  obtain ⟨f, fd, F, m⟩ := F.ex
  refine ⟨f, fd, F, F.ok S_is_letter (fun vs H Q E h => ?_) (fun cdv A outer s H vs Q E hr h => ?_), F.binds fun _ _ _ _ _ _ us hl => match us, hl with | [_, _], _ => rfl, m, F.kp⟩
  · obtain ⟨al, c, rfl, _⟩ := h
    rfl
  obtain ⟨al, c, rfl, hc, q⟩ := h
  refine ⟨_, (pss_one
    (ps_ret (pe_and (pe_callB call_isi rfl T.z_isinstance (by decide +kernel) (pa_cons (pv 1) (pa_cons (pe_bltn (v := .ty "str") rfl T.z_str (by decide +kernel) rfl) pa_nil))) (pe_and (pe_cmpR op_eq (pe_callB call_len_str rfl T.z_len PySem.boot_len (pa_cons (pv 1) pa_nil)) pe_int (nomark _)) (pe_one (pe_cmpR op_in_sign (pv 1) (pv 0) rfl)))))), ?_⟩
  refine s_ret (ev_is (ev_andV (ev_cb (ea_cons (ev_var rfl) (ea_cons ev_c ea_nil)) (rc_isiS (b := true) (by decide +kernel)))
    (fun _ => ev_andV (ev_op (ev_lenS (l := [c]) (by show 1 ≤ 100000; decide) (ev_var rfl)) ev_c (rv_eq rfl)) (fun _ => ev_op (ev_var rfl) (ev_var rfl) (rv_inSign (c := c) (l := al))))) ?_) q
  rw [decide_eq_true hc]
  rfl
theorem sv_let {al : List Nat} {c : Nat} {H : Hp} (h : c ∈ al) : SpV spLet ([tx al, tx [c]] ++ []) H (.bl true) := fun _ _ _ q _ => ⟨al, c, rfl, h, q⟩
theorem has_whole (F : At K mg "is_whole" s_is_whole) (T : Top K mg C_Cut C_Round) : Has P w K mg base "is_whole" s_is_whole ["value"] 1 spWhole := by
  obtain ⟨f, fd, F, m⟩ := F.ex
  refine ⟨f, fd, F, F.ok S_is_whole (fun vs H Q E h => ?_) (fun cdv A outer s H vs Q E hr h => ?_), F.binds fun _ _ _ _ _ _ us hl => match us, hl with | [_], _ => rfl, m, F.kp⟩
  · obtain ⟨n, rfl, _⟩ := h
    rfl
  obtain ⟨n, rfl, q⟩ := h
  refine ⟨_, (pss_one
    (ps_ret (pe_and (pe_callB call_isi rfl T.z_isinstance (by decide +kernel) (pa_cons (pv 0) (pa_cons (pe_bltn (v := .ty "int") rfl T.z_int (by decide +kernel) rfl) pa_nil))) (pe_one (pe_not (pe_callB call_isi rfl T.z_isinstance (by decide +kernel) (pa_cons (pv 0) (pa_cons (pe_bltn (v := .ty "bool") rfl T.z_bool (by decide +kernel) rfl) pa_nil)))))))), ?_⟩
  exact s_ret (ev_is (ev_andV (ev_cb (ea_cons (ev_var rfl) (ea_cons ev_c ea_nil)) (rc_isi (b := true) (by decide +kernel)))
    (fun _ => ev_notV (ev_cb (ea_cons (ev_var rfl) (ea_cons ev_c ea_nil)) (rc_isi (b := false) (by decide +kernel))))) rfl) q
def spBelow : Sp := fun vs H Q _ => ∃ n m : Int, vs = [.int n, .int m] ∧ RetV (.bl (decide (0 ≤ n) && decide (n < m))) H Q
theorem sv_below {n m : Int} {H : Hp} : SpV spBelow ([V.int n, V.int m] ++ []) H (.bl (decide (0 ≤ n) && decide (n < m))) := fun _ _ _ q _ => ⟨n, m, rfl, q⟩
theorem sv_belowT {n m : Int} {H : Hp} (h0 : 0 ≤ n) (h : n < m) : SpV spBelow ([V.int n, V.int m] ++ []) H (.bl true) := by
  have g := sv_below (n := n) (m := m) (H := H)
  rw [decide_eq_true h0, decide_eq_true h] at g
  exact g
theorem has_below (F : At K mg "is_number_below" s_is_number_below) (T : Top K mg C_Cut C_Round) (h1 : Has P w K mg base "is_whole" s_is_whole ["value"] 1 spWhole) : Has P w K mg base "is_number_below" s_is_number_below ["value", "many"] 2 spBelow := by
  obtain ⟨f, fd, F, m⟩ := F.ex
  obtain ⟨f1, fd1, _, G_is_whole, b_is_whole, m_is_whole, k_is_whole⟩ := h1
  refine ⟨f, fd, F, F.ok S_is_number_below (fun vs H Q E h => ?_) (fun cdv A outer s H vs Q E hr h => ?_), F.binds fun _ _ _ _ _ _ us hl => match us, hl with | [_, _], _ => rfl, m, F.kp⟩
  · obtain ⟨n, m, rfl, _⟩ := h
    rfl
  obtain ⟨n, m, rfl, q⟩ := h
  refine ⟨_, (pss_one
    (ps_ret (pe_and (pe_call G_is_whole (hr.mono (by decide)) rfl m_is_whole k_is_whole b_is_whole .nil pass0 (pa_cons (pv 0) pa_nil)) (pe_one (pe_chain op_le op_lt pe_int (pv 0) (pv 1)))))), ?_⟩
  exact s_ret (ev_is (ev_andV (ev_call (ea_cons (ev_var rfl) ea_nil) sv_whole) (fun _ => ev_chainV ev_c (ev_var rfl) rv_I0 (fun _ => ev_var rfl) (fun _ => rv_I0))) (by rw [Bool.true_and])) q
/-! ### check_alphabet, check_text -/
def spCkAl : Sp := fun vs H Q _ => ∃ al : List Nat, vs = [tx al] ∧ Alf al ∧ RetV .non H Q
theorem has_ckal (F : At K mg "check_alphabet" s_check_alphabet) (T : Top K mg C_Cut C_Round) (h1 : Has P w K mg base "is_alphabet" s_is_alphabet ["string"] 1 spIsAl) : Has P w K mg base "check_alphabet" s_check_alphabet ["alphabet"] 2 spCkAl := by
  obtain ⟨f, fd, F, m⟩ := F.ex
  obtain ⟨f1, fd1, _, G_is_alphabet, b_is_alphabet, m_is_alphabet, k_is_alphabet⟩ := h1
  refine ⟨f, fd, F, F.ok S_check_alphabet (fun vs H Q E h => ?_) (fun cdv A outer s H vs Q E hr h => ?_), F.binds fun _ _ _ _ _ _ us hl => match us, hl with | [_], _ => rfl, m, F.kp⟩
  · obtain ⟨al, rfl, _⟩ := h
    rfl
  obtain ⟨al, rfl, hA, q⟩ := h
  refine ⟨_, (pss_one
    (ps_if (pt_not (pt_val (pe_call G_is_alphabet (hr.mono (by decide)) rfl m_is_alphabet k_is_alphabet b_is_alphabet .nil pass0 (pa_cons (pv 0) pa_nil)))) (pss_one
    ps_never) pss_nil)), ?_⟩
  exact s_skip (et_not (et_B (ev_call (ea_cons (ev_var rfl) ea_nil) (sv_isal hA)))) fun H1 e1 => q H1 e1
theorem sv_ckal {al : List Nat} {H : Hp} (h : Alf al) : SpV spCkAl ([tx al] ++ []) H .non := fun _ _ _ q _ => ⟨al, rfl, h, q⟩
def spCkTx : Sp := fun vs H Q _ => ∃ al v : List Nat, vs = [tx al, tx v] ∧ (∀ c ∈ v, c ∈ al) ∧ v.length ≤ 100000 ∧ RetV .non H Q
theorem has_cktx (F : At K mg "check_text" s_check_text) (T : Top K mg C_Cut C_Round) : Has P w K mg base "check_text" s_check_text ["alphabet", "text"] 1 spCkTx := by
  obtain ⟨f, fd, F, m⟩ := F.ex
  refine ⟨f, fd, F, F.ok S_check_text (fun vs H Q E h => ?_) (fun cdv A outer s H vs Q E hr h => ?_), F.binds fun _ _ _ _ _ _ us hl => match us, hl with | [_, _], _ => rfl, m, F.kp⟩
  · obtain ⟨al, v, rfl, _⟩ := h
    rfl
  obtain ⟨al, v, rfl, hv, hz, q⟩ := h
  refine ⟨_, (pss_cons
    (ps_set (i := 2) S_check_text.nd rfl (Or.inl rfl) (pe_bm PySem.F.plainAttrs_str PySem.F.slot_str_lstrip PySem.F.type_str_lstrip mt_lstripChars (pv 1) (pa_cons (pv 0) pa_nil)))
    (pss_one
    (ps_if (pt_cmpR op_ne (pv 2) pe_str (nomark _)) (pss_one
    ps_never) pss_nil))), ?_⟩
  refine q_asg (v := tx []) (ev_bm (ev_var rfl) (fun _ _ => rfl) (ea_cons (ev_var rfl) ea_nil) fun H2 _ Q' q' => ⟨SX.S v, SX.S al, rfl, rfl, by rw [SX.S_len]; exact sz_of hz, by rw [lstrip_chars hv]; exact q' H2 (Ex.refl H2)⟩) fun H1 e1 => ?_
  exact s_skip (et_is (et_test (ev_op (ev_var rfl) ev_c (rv_ne rfl))) (by rw [nil_is]; simp)) fun H2 e2 => q H2 (e1.trans e2)
theorem sv_cktx {al v : List Nat} {H : Hp} (h : ∀ c ∈ v, c ∈ al) (hz : v.length ≤ 100000) : SpV spCkTx ([tx al, tx v] ++ []) H .non := fun _ _ _ q _ => ⟨al, v, rfl, h, hz, q⟩
end
end Ver
namespace Ver
open PySem PySem.Spec PyProof.Rows L2 Evl
section
variable {P : Program} {w : World} {K : PySem.W.Frag} {mg : Str → Option Value} {base : Heap} {C_Cut : Addr} {C_Round : Addr}
/-! ### isinstance(x, (list, tuple)) -/
theorem kit_no {t : String} (h1 : kitB t "list" = some false) (h2 : kitB t "tuple" = some false) : PySem.W.kitAny K (.type t) [.type "list", .type "tuple"] = some false :=
  kitAny_cons (kit_ty h1) (fun _ => kitAny_cons (kit_ty h2) (fun _ => rfl) (fun h => nomatch h)) (fun h => nomatch h)
theorem kit_list : PySem.W.kitAny K (.type "list") [.type "list", .type "tuple"] = some true :=
  kitAny_cons (kit_ty (b := "list") (r := true) (by decide +kernel)) (fun h => nomatch h) (fun _ => rfl)
theorem kit_tuple : PySem.W.kitAny K (.type "tuple") [.type "list", .type "tuple"] = some true :=
  kitAny_cons (kit_ty (b := "list") (r := false) (by decide +kernel)) (fun _ => kitAny_cons (kit_ty (b := "tuple") (r := true) (by decide +kernel)) (fun h => nomatch h) (fun _ => rfl)) (fun h => nomatch h)
theorem ev_isT {ta tu : TE} {σ : L2.St} {H : Hp} {x : V} {t : Value} {b : Bool} (hx : Ev ta σ H x) (hu : EvU tu σ H [.ty "list", .ty "tuple"]) (ht : ∀ H1, Ex H H1 → TyX K H1 x t)
    (hb : PySem.W.kitAny K t [.type "list", .type "tuple"] = some b) : Ev (tCB (rIsiT K) (tCons ta (tCons tu tNil))) σ H (.bl b) := fun H1 e Q q =>
  hx H1 e _ fun H2 e2 => hu H2 (e.trans e2) _ fun p H3 _ e3 h3 => ⟨x, p, _, t, _, b, rfl, h3, .cons (.ty _) (.cons (.ty _) .nil), ht H3 ((e.trans e2).trans e3), hb, q H3 (e2.trans e3)⟩
/-! ### as_tuples, level by level -/
def spNo : Sp := fun _ _ _ _ => False
def flatT (x : V) : Prop := (∃ n, x = .int n) ∨ ∃ z, x = .str z
def Seq (H : Hp) (a : Addr) (xs : List V) : Prop := H a = some (.lst xs) ∨ H a = some (.tup xs)
theorem Seq.mono {H H' : Hp} {a : Addr} {xs : List V} (h : Seq H a xs) (e : Ex H H') : Seq H' a xs := h.elim (fun h => .inl (e _ _ h)) (fun h => .inr (e _ _ h))
theorem Seq.ty {H : Hp} {a : Addr} {xs : List V} (h : Seq H a xs) : ∃ t : Value, (∀ H1, Ex H H1 → TyX K H1 (.ref a) t) ∧ PySem.W.kitAny K t [.type "list", .type "tuple"] = some true := by
  rcases h with h | h
  · exact ⟨_, fun H1 e => .base (.lst (e _ _ h)), kit_list⟩
  · exact ⟨_, fun H1 e => .base (.tup (e _ _ h)), kit_tuple⟩
theorem s_retTup {σ : L2.St} {H : Hp} {te : TE} {D : Ends} (h : te σ H fun x H1 => ∃ p ys, [x] = [V.ref p] ∧ ((SqL K H1 p ys ∧ ∀ l, H1 l = none → D.rt (.ref l) (upd H1 l (.tup ys))) ∨ (SqT K H1 p ys ∧ D.rt (.ref p) H1))) :
    tRet (tCB (fun xs H Q => ∃ p ys, xs = [.ref p] ∧ ((SqL K H p ys ∧ ∀ l, H l = none → Q (.ref l) (upd H l (.tup ys))) ∨ (SqT K H p ys ∧ Q (.ref p) H))) (tCons te tNil)) D σ H := h
/-- a list made over a list or a tuple -/
theorem run_lcSeq {σ : L2.St} {H : Hp} {tl te : TE} {a : Addr} {xs : List V} {j : Nat} {vs : List Nat} {Q : VK} (h : Ev tl σ H (.ref a)) (hS : Seq H a xs) (Pv : Addr → Nat → Hp → Prop)
    (h0 : ∀ H1 Dl, Ex H H1 → H1 Dl = none → Pv Dl 0 (upd H1 Dl (.lst []))) (hG : ∀ Dl i H', Pv Dl i H' → Ex H H')
    (hs : ∀ Dl i x H', xs[i]? = some x → Pv Dl i H' → wipe ((wipe σ vs).set j (some x)) vs = wipe σ vs ∧ te ((wipe σ vs).set j (some x)) H' fun y H4 => ∃ acc, H4 Dl = some (.lst acc) ∧ acc.length < sizeLine ∧ Pv Dl (i + 1) (upd H4 Dl (.lst (acc ++ [y]))))
    (hd : ∀ Dl H', Pv Dl xs.length H' → Q (.ref Dl) H') : tLc (iSeq K tl) (gName j) tYes te vs σ H Q :=
  h H (Ex.refl H) _ fun H1 e1 => ⟨a, rfl, by
    rcases hS.mono e1 with q | q
    · exact .inl ⟨xs, sq_of q, fun Dl hD => lc_list (xs := xs) (Pv Dl) (h0 H1 Dl e1 hD) (fun i H' _ p => by
        have := (hG Dl i H' p)
        rcases hS with y | y
        · exact sq_of (this _ _ y)
        · have := e1 _ _ y
          rw [q] at this
          cases this) (fun i x H' hi p => ⟨(hs Dl i x H' hi p).1, (hs Dl i x H' hi p).2⟩) (hd Dl)⟩
    · exact .inr ⟨xs, st_of q, fun Dl hD => lc_tup (xs := xs) (Pv Dl) (h0 H1 Dl e1 hD) (fun i H' _ p => by
        have := (hG Dl i H' p)
        rcases hS with y | y
        · have := e1 _ _ y
          rw [q] at this
          cases this
        · exact st_of (this _ _ y)) (fun i x H' hi p => ⟨(hs Dl i x H' hi p).1, (hs Dl i x H' hi p).2⟩) (hd Dl)⟩⟩
/-- rows of pairs, each a list or a tuple -/
structure RowsS (H : Hp) (xs : List V) (rs : Rw) : Prop where
  len : xs.length = rs.length
  row : ∀ i x, xs[i]? = some x → i < rs.length ∧ ∃ r, x = .ref r ∧ Seq H r [.int ((rowAt rs i).1 : Int), tx [(rowAt rs i).2]]
theorem RowsS.mono {H H' : Hp} {xs : List V} {rs : Rw} (h : RowsS H xs rs) (e : Ex H H') : RowsS H' xs rs := ⟨h.len, fun i x q => by
  obtain ⟨a, r, b, c⟩ := h.row i x q
  exact ⟨a, r, b, c.mono e⟩⟩
theorem RowsS.get {H : Hp} {xs : List V} {rs : Rw} (h : RowsS H xs rs) {i : Nat} {x : V} (hx : xs[i]? = some x) : i < rs.length ∧ ∃ r, x = .ref r ∧ Seq H r [.int ((rowAt rs i).1 : Int), tx [(rowAt rs i).2]] := h.row i x hx
theorem RowsAt.toS {H : Hp} {xs : List V} {rs : Rw} (h : RowsAt H xs rs) : RowsS H xs rs := ⟨h.len, fun i x q => by
  obtain ⟨a, r, b, c⟩ := h.get q
  exact ⟨a, r, b, .inr c⟩⟩
def spAs0 : Sp := fun vs H Q _ => ∃ x : V, vs = [x] ∧ flatT x ∧ RetV x H Q
def spAs1 : Sp := fun vs H Q _ => ∃ (a : Addr) (xs : List V), vs = [.ref a] ∧ Seq H a xs ∧ xs.length ≤ 40000 ∧ (∀ x ∈ xs, flatT x) ∧ RetU xs H Q
def spAs2 : Sp := fun vs H Q _ => ∃ (a : Addr) (xs : List V) (rs : Rw), vs = [.ref a] ∧ Seq H a xs ∧ xs.length ≤ 40000 ∧ RowsS H xs rs ∧ ∀ p ys H2, H p = none → Ex H H2 → H2 p = some (.tup ys) → RowsAt H2 ys rs → Q (.ref p) H2
theorem as_no {f : Addr} {fd : FuncData} (F : Fun K "as_tuples" "as_tuples" s_as_tuples f fd) : FnOk P w K mg base CX0 1 f fd ["value"] spNo := F.ok S_as_tuples (fun vs H Q E h => h.elim) (fun cdv A outer s H vs Q E hr h => h.elim)
theorem as_0 {f : Addr} {fd : FuncData} (F : Fun K "as_tuples" "as_tuples" s_as_tuples f fd) (T : Top K mg C_Cut C_Round) (b_as_tuples : Binds K fd ["value"] []) (m_as_tuples : mg "as_tuples" = some (.ref f)) (k_as_tuples : PySem.W.keepIn K (.ref f) = true) : FnOk P w K mg base CX0 2 f fd ["value"] spAs0 := by
  have G_as_tuples := as_no (P := P) (w := w) (mg := mg) (base := base) F
  refine F.ok S_as_tuples (fun vs H Q E h => ?_) (fun cdv A outer s H vs Q E hr h => ?_)
  · obtain ⟨x, rfl, _⟩ := h
    rfl
  obtain ⟨x, rfl, hx, q⟩ := h
  refine ⟨_, (pss_cons
    (ps_if (pt_val (pe_callB call_isiT rfl T.z_isinstance (by decide +kernel) (pa_cons (pv 0) (pa_cons (pe_tup (pa_cons (pe_bltn (v := .ty "list") rfl T.z_list (by decide +kernel) rfl) (pa_cons (pe_bltn (v := .ty "tuple") rfl T.z_tuple (by decide +kernel) rfl) pa_nil))) pa_nil)))) (pss_one
    (ps_ret (pe_callTy call_tuple_of rfl T.z_tuple (by decide +kernel) (pa_cons (pe_lc (own := [("item", 1)]) (g := gName 1) (tt := tYes) rfl S_as_tuples.nd (pi_seq (pv 0)) (blkOk_by (N := N_as_tuples) (sc := defScope s_as_tuples) (by decide +kernel)) (fun _ _ _ _ _ => pg_name (i := 1) S_as_tuples.nd rfl (Or.inl rfl)) (fun _ _ _ _ _ => pts_nil) (fun _ _ _ _ _ => (pe_call G_as_tuples (hr.mono (by omega)) rfl m_as_tuples k_as_tuples b_as_tuples .nil pass0 (pa_cons (pv 1) pa_nil)))) pa_nil)))) pss_nil)
    (pss_one
    (ps_ret (pv 0)))), ?_⟩
  have ht : ∃ t : Value, (∀ H1, Ex H H1 → TyX K H1 x t) ∧ PySem.W.kitAny K t [.type "list", .type "tuple"] = some false := by
    rcases hx with ⟨n, rfl⟩ | ⟨z, rfl⟩
    · exact ⟨.type "int", fun _ _ => .base (.int n), kit_no (by decide +kernel) (by decide +kernel)⟩
    · exact ⟨.type "str", fun _ _ => .base (.str z), kit_no (by decide +kernel) (by decide +kernel)⟩
  obtain ⟨t, ht, hb⟩ := ht
  refine q_skip (et_B (ev_isT (ev_var rfl) (eu_tup (ea_cons ev_c (ea_cons ev_c ea_nil)) (by show 2 ≤ 100000; decide)) ht hb)) fun H1 e1 => ?_
  exact s_ret (ev_var rfl) fun H2 e2 => q H2 (e1.trans e2)
theorem sv_as0 {x : V} {H : Hp} (h : flatT x) : SpV spAs0 ([x] ++ []) H x := fun _ _ _ q _ => ⟨x, rfl, h, q⟩
theorem as_1 {f : Addr} {fd : FuncData} (F : Fun K "as_tuples" "as_tuples" s_as_tuples f fd) (T : Top K mg C_Cut C_Round) (b_as_tuples : Binds K fd ["value"] []) (m_as_tuples : mg "as_tuples" = some (.ref f)) (k_as_tuples : PySem.W.keepIn K (.ref f) = true) : FnOk P w K mg base CX0 3 f fd ["value"] spAs1 := by
  have G_as_tuples := as_0 (P := P) (w := w) (base := base) F T b_as_tuples m_as_tuples k_as_tuples
  refine F.ok S_as_tuples (fun vs H Q E h => ?_) (fun cdv A outer s H vs Q E hr h => ?_)
  · obtain ⟨a, xs, rfl, _⟩ := h
    rfl
  obtain ⟨a, xs, rfl, hS, hz, hx, q⟩ := h
  refine ⟨_, (pss_cons
    (ps_if (pt_val (pe_callB call_isiT rfl T.z_isinstance (by decide +kernel) (pa_cons (pv 0) (pa_cons (pe_tup (pa_cons (pe_bltn (v := .ty "list") rfl T.z_list (by decide +kernel) rfl) (pa_cons (pe_bltn (v := .ty "tuple") rfl T.z_tuple (by decide +kernel) rfl) pa_nil))) pa_nil)))) (pss_one
    (ps_ret (pe_callTy call_tuple_of rfl T.z_tuple (by decide +kernel) (pa_cons (pe_lc (own := [("item", 1)]) (g := gName 1) (tt := tYes) rfl S_as_tuples.nd (pi_seq (pv 0)) (blkOk_by (N := N_as_tuples) (sc := defScope s_as_tuples) (by decide +kernel)) (fun _ _ _ _ _ => pg_name (i := 1) S_as_tuples.nd rfl (Or.inl rfl)) (fun _ _ _ _ _ => pts_nil) (fun _ _ _ _ _ => (pe_call G_as_tuples (hr.mono (by omega)) rfl m_as_tuples k_as_tuples b_as_tuples .nil pass0 (pa_cons (pv 1) pa_nil)))) pa_nil)))) pss_nil)
    (pss_one
    (ps_ret (pv 0)))), ?_⟩
  obtain ⟨t, ht, hb⟩ := hS.ty (K := K)
  refine q_take (et_B (ev_isT (ev_var rfl) (eu_tup (ea_cons ev_c (ea_cons ev_c ea_nil)) (by show 2 ≤ 100000; decide)) ht hb)) fun H1 e1 => ?_
  have hS1 := hS.mono e1
  refine s_retU (xs := xs) (eu_tupOfL ?_) fun p H2 hp e2 h2 => q p H2 (fresh_back e1 hp) (e1.trans e2) h2
  intro H2 e2 Q2 q2
  refine run_lcSeq (σ := [some (.ref a), none]) (ev_var rfl) (hS1.mono e2) (fun Dl i H' => H2 Dl = none ∧ Ex H2 H' ∧ H' Dl = some (.lst (xs.take i))) (fun H3 Dl e3 hD => ⟨fresh_back e3 hD, e3.trans (Ex.new hD), upd_same⟩) (fun Dl i H' p => p.2.1) ?_ ?_
  · intro Dl i x H' hi p
    have hlt := (List.getElem?_eq_some_iff.mp hi).1
    refine ⟨rfl, (ev_call (z := x) (ea_cons (ev_var rfl) ea_nil) (sv_as0 (hx x (List.mem_of_getElem? hi)))) H' (Ex.refl H') _ fun H3 e3 => ⟨xs.take i, e3 _ _ p.2.2, sz_lt (by rw [List.length_take]; omega), p.1, (p.2.1.trans e3).mut p.1, ?_⟩⟩
    rw [List.take_add_one, hi]
    exact upd_same
  · intro Dl H' p
    have p3 := p.2.2
    rw [List.take_length] at p3
    exact q2 Dl H' p.1 p.2.1 p3
theorem su_as1 {a : Addr} {xs : List V} {H : Hp} (h : Seq H a xs) (hz : xs.length ≤ 40000) (hx : ∀ x ∈ xs, flatT x) : SpU spAs1 ([.ref a] ++ []) H xs := fun _ e _ q _ => ⟨a, xs, rfl, h.mono e, hz, hx, q⟩
theorem as_2 {f : Addr} {fd : FuncData} (F : Fun K "as_tuples" "as_tuples" s_as_tuples f fd) (T : Top K mg C_Cut C_Round) (b_as_tuples : Binds K fd ["value"] []) (m_as_tuples : mg "as_tuples" = some (.ref f)) (k_as_tuples : PySem.W.keepIn K (.ref f) = true) : FnOk P w K mg base CX0 4 f fd ["value"] spAs2 := by
  have G_as_tuples := as_1 (P := P) (w := w) (base := base) F T b_as_tuples m_as_tuples k_as_tuples
  refine F.ok S_as_tuples (fun vs H Q E h => ?_) (fun cdv A outer s H vs Q E hr h => ?_)
  · obtain ⟨a, xs, rs, rfl, _⟩ := h
    rfl
  obtain ⟨a, xs, rs, rfl, hS, hz, hR, q⟩ := h
  refine ⟨_, (pss_cons
    (ps_if (pt_val (pe_callB call_isiT rfl T.z_isinstance (by decide +kernel) (pa_cons (pv 0) (pa_cons (pe_tup (pa_cons (pe_bltn (v := .ty "list") rfl T.z_list (by decide +kernel) rfl) (pa_cons (pe_bltn (v := .ty "tuple") rfl T.z_tuple (by decide +kernel) rfl) pa_nil))) pa_nil)))) (pss_one
    (ps_ret (pe_callTy call_tuple_of rfl T.z_tuple (by decide +kernel) (pa_cons (pe_lc (own := [("item", 1)]) (g := gName 1) (tt := tYes) rfl S_as_tuples.nd (pi_seq (pv 0)) (blkOk_by (N := N_as_tuples) (sc := defScope s_as_tuples) (by decide +kernel)) (fun _ _ _ _ _ => pg_name (i := 1) S_as_tuples.nd rfl (Or.inl rfl)) (fun _ _ _ _ _ => pts_nil) (fun _ _ _ _ _ => (pe_call G_as_tuples (hr.mono (by omega)) rfl m_as_tuples k_as_tuples b_as_tuples .nil pass0 (pa_cons (pv 1) pa_nil)))) pa_nil)))) pss_nil)
    (pss_one
    (ps_ret (pv 0)))), ?_⟩
  obtain ⟨t, ht, hb⟩ := hS.ty (K := K)
  refine q_take (et_B (ev_isT (ev_var rfl) (eu_tup (ea_cons ev_c (ea_cons ev_c ea_nil)) (by show 2 ≤ 100000; decide)) ht hb)) fun H1 e1 => ?_
  have hS1 := hS.mono e1
  refine s_retTup (run_lcSeq (ev_var rfl) hS1 (fun Dl i H' => H1 Dl = none ∧ Ex H1 H' ∧ ∃ ys, H' Dl = some (.lst ys) ∧ RowsAt H' ys (rs.take i)) (fun H3 Dl e3 hD => ⟨fresh_back e3 hD, e3.trans (Ex.new hD), [], upd_same, .nil⟩) (fun Dl i H' p => p.2.1) ?_ ?_)
  · intro Dl i x H' hi p
    obtain ⟨p1, p2, ys, p3, p4⟩ := p
    obtain ⟨hlt, r, rfl, hr⟩ := hR.get hi
    have hr2 := hr.mono (e1.trans p2)
    refine ⟨rfl, (eu_call (ea_cons (ev_var rfl) ea_nil) (su_as1 (xs := [.int ((rowAt rs i).1 : Int), tx [(rowAt rs i).2]]) hr2 (by show 2 ≤ 40000; decide) (fun x hx => ?_))) H' (Ex.refl H') _ fun r2 H3 hr3 e3 h3 => ?_⟩
    · rcases List.mem_cons.mp hx with rfl | hx
      · exact .inl ⟨_, rfl⟩
      · rw [List.mem_singleton.mp hx]
        exact .inr ⟨_, rfl⟩
    · have hl := p4.len
      rw [List.length_take] at hl
      have hx := hR.len
      refine ⟨ys, e3 _ _ p3, sz_lt (by omega), p1, (p2.trans e3).mut p1, ys ++ [.ref r2], upd_same, ?_⟩
      have g := (p4.mono e3).snoc (r := r2) (p := (rowAt rs i).1) (c := (rowAt rs i).2) h3
      have et : rs.take (i + 1) = rs.take i ++ [((rowAt rs i).1, (rowAt rs i).2)] := by
        rw [List.take_add_one, rowAt_get hlt]
        rfl
      rw [et]
      exact g.upd (e3 _ _ p3) fun ys => by
        intro z
        cases z
  · intro Dl H' p
    obtain ⟨p1, p2, ys, p3, p4⟩ := p
    refine ⟨Dl, ys, rfl, .inl ⟨sq_of p3, fun l hl => ?_⟩⟩
    have e9 : rs.take xs.length = rs := List.take_of_length_le (by rw [hR.len]; exact Nat.le_refl _)
    rw [e9] at p4
    exact q l ys _ (fresh_back (e1.trans p2) hl) ((e1.trans p2).trans (Ex.new hl)) upd_same (p4.mono (Ex.new hl))
theorem has_as (F : At K mg "as_tuples" s_as_tuples) (T : Top K mg C_Cut C_Round) : Has P w K mg base "as_tuples" s_as_tuples ["value"] 4 spAs2 := by
  obtain ⟨f, fd, F, m⟩ := F.ex
  have b := F.binds (ps := ["value"]) fun _ _ _ _ _ _ us hl => match us, hl with | [_], _ => rfl
  exact ⟨f, fd, F, as_2 F T b m F.kp, b, m, F.kp⟩
end
end Ver
namespace Ver
open PySem PySem.Spec PyProof.Rows L2 Evl
/-! ### dicts by rows -/
def kr (r : Nat × Nat) : List Key := [Sum.inl (r.1 : Int), Sum.inr (SX.S [r.2])]
theorem kr_map (r : Nat × Nat) : (kr r).map kV = [V.int (r.1 : Int), tx [r.2]] := rfl
theorem kr_inj {a b : Nat × Nat} (h : kr a = kr b) : a = b := by
  unfold kr at h
  have h1 := (List.cons.inj h).1
  have h2 := (List.cons.inj (List.cons.inj h).2).1
  have e1 : (a.1 : Int) = (b.1 : Int) := Sum.inl.inj h1
  have e2 := SX.S_inj (Sum.inr.inj h2)
  have e3 : a.2 = b.2 := (List.cons.inj e2).1
  exact Prod.ext (by omega) e3
structure DictAt (kvs : List (List Key × V)) (L : Rw) (v : Nat × Nat → V) : Prop where
  len : kvs.length = L.length
  there : ∀ r ∈ L, valV kvs (kr r) = some (v r)
  not : ∀ r, r ∉ L → valV kvs (kr r) = none
theorem DictAt.nil {v : Nat × Nat → V} : DictAt [] [] v := ⟨rfl, fun r h => (by cases h), fun r _ => rfl⟩
theorem DictAt.put {kvs : List (List Key × V)} {L : Rw} {v v' : Nat × Nat → V} {r : Nat × Nat} (h : DictAt kvs L v) (hr : r ∉ L) (he : ∀ q ∈ L, v' q = v q) : DictAt (putK kvs (kr r) (v' r)) (L ++ [r]) v' := by
  refine ⟨?_, fun q hq => ?_, fun q hq => ?_⟩
  · rw [putK_new _ (h.not r hr), List.length_append, List.length_append, h.len]
    rfl
  · rw [valV_put]
    by_cases c : q = r
    · rw [c, if_pos rfl]
    · rw [if_neg fun e => c (kr_inj e)]
      rcases List.mem_append.mp hq with hq | hq
      · rw [h.there q hq, he q hq]
      · exact absurd (List.mem_singleton.mp hq) c
  · rw [valV_put, if_neg fun e => hq (by rw [kr_inj e]; exact List.mem_append_right _ (List.mem_singleton.mpr rfl))]
    exact h.not q fun hm => hq (List.mem_append_left _ hm)
theorem take_row {rs : Rw} {i : Nat} (h : i < rs.length) : rs.take (i + 1) = rs.take i ++ [rowAt rs i] := by
  rw [List.take_add_one, rowAt_get h]
  rfl
theorem row_new {al : List Nat} {rs : Rw} (h : RowsOk al rs) {i : Nat} (hi : i < rs.length) : rowAt rs i ∉ rs.take i := by
  have g := h.take (i + 1)
  rw [take_row hi] at g
  exact (RowsOk.last (p := (rowAt rs i).1) (c := (rowAt rs i).2) g).2.2
section
variable {P : Program} {w : World} {K : PySem.W.Frag} {mg : Str → Option Value} {base : Heap} {C_Cut : Addr} {C_Round : Addr}
/-! ### check_rows -/
def spCkR (K : PySem.W.Frag) : Sp := fun vs H Q _ => ∃ (al : List Nat) (a : Addr) (xs : List V) (rs : Rw), vs = [tx al, .ref a] ∧ SqT K H a xs ∧ RowsAt H xs rs ∧ RowsOk al rs ∧ rs.length ≤ 20100 ∧ RetV .non H Q
theorem has_ckr (F : At K mg "check_rows" s_check_rows) (T : Top K mg C_Cut C_Round) (h1 : Has P w K mg base "is_letter" s_is_letter ["alphabet", "value"] 1 spLet) (h2 : Has P w K mg base "is_number_below" s_is_number_below ["value", "many"] 2 spBelow) : Has P w K mg base "check_rows" s_check_rows ["alphabet", "rows"] 3 (spCkR K) := by
  obtain ⟨f, fd, F, m⟩ := F.ex
  obtain ⟨f1, fd1, _, G_is_letter, b_is_letter, m_is_letter, k_is_letter⟩ := h1
  obtain ⟨f2, fd2, _, G_is_number_below, b_is_number_below, m_is_number_below, k_is_number_below⟩ := h2
  refine ⟨f, fd, F, F.ok S_check_rows (fun vs H Q E h => ?_) (fun cdv A outer s H vs Q E hr h => ?_), F.binds fun _ _ _ _ _ _ us hl => match us, hl with | [_, _], _ => rfl, m, F.kp⟩
  · obtain ⟨al, a, xs, rs, rfl, _⟩ := h
    rfl
  obtain ⟨al, a, xs, rs, rfl, hT, hR, ok, hz, q⟩ := h
  refine ⟨_, (pss_cons
    (ps_set (i := 2) S_check_rows.nd rfl (Or.inl rfl) pe_dnewT)
    (pss_one
    (ps_for PassesOwn.never rfl (pi_enumT rfl T.z_enumerate (pa_cons (pv 1) pa_nil)) (pg_tup rfl (pgs_cons (pg_name (i := 3) S_check_rows.nd rfl (Or.inl rfl)) (pgs_cons (pg_name (i := 4) S_check_rows.nd rfl (Or.inl rfl)) pgs_nil))) (pss_cons
    (ps_asg (pv 4) (pg_tup rfl (pgs_cons (pg_name (i := 5) S_check_rows.nd rfl (Or.inl rfl)) (pgs_cons (pg_name (i := 6) S_check_rows.nd rfl (Or.inl rfl)) pgs_nil))))
    (pss_cons
    (ps_if (pt_not (pt_val (pe_call G_is_number_below (hr.mono (by decide)) rfl m_is_number_below k_is_number_below b_is_number_below .nil pass0 (pa_cons (pv 5) (pa_cons (pe_op op_add (pv 3) pe_int) pa_nil))))) (pss_one
    ps_never) pss_nil)
    (pss_cons
    (ps_if (PW.pt (pw_or (pt_not (pt_val (pe_call G_is_letter (hr.mono (by decide)) rfl m_is_letter k_is_letter b_is_letter .nil pass0 (pa_cons (pv 0) (pa_cons (pv 6) pa_nil))))) (pw_or1 (pt_cmp (pc_din (hu_of hr) (pv 4) (pv 2)))))) (pss_one
    ps_never) pss_nil)
    (pss_one
    (ps_dput (hu_of hr) (pv 2) (pv 4) pe_bl rfl)))))))), ?_⟩
  refine q_newT fun d H1 hd e1 h1 => ?_
  refine s_forET (D := { nx := _, rt := _, bk := _, ct := _ }) (xs := xs) (ea_cons (ev_var rfl) ea_nil) (ex_t e1 hT)
    (fun i σ' H' => (∃ u3 u4 u5 u6, σ' = [some (tx al), some (.ref a), some (.ref d), u3, u4, u5, u6]) ∧ Ex H H' ∧ (∃ kvs, H' d = some (.dT kvs) ∧ DictAt kvs (rs.take i) (fun _ => .bl true))) ?_ ?_ ?_ ?_
  · intro H2 e2
    exact ⟨⟨none, none, none, none, rfl⟩, e1.trans e2, [], e2 _ _ h1, .nil⟩
  · intro i σ' H' p
    exact ex_t p.2.1 hT
  · intro i x σ' H' H2 hx p e2
    obtain ⟨⟨u3, u4, u5, u6, rfl⟩, e3, kvs, hk, dk⟩ := p
    obtain ⟨hi, r, rfl, hr⟩ := hR.get hx
    have hr2 := e2 _ _ (e3 _ _ hr)
    obtain ⟨low, mem⟩ := row_ok ok hi
    refine q_unp (ev_var rfl) hr2 fun H3 e4 => ?_
    refine q_skip (et_is (et_not (et_B (ev_call (ea_cons (ev_var rfl) (ea_cons (ev_op (ev_var rfl) ev_c rv_I0) ea_nil)) (sv_belowT (n := ((rowAt rs i).1 : Int)) (m := (i : Int) + 1) (by omega) (by omega))))) rfl) fun H4 e5 => ?_
    have e24 := (e2.trans e4).trans e5
    refine q_skip (et_is (et_or (et_not (et_B (ev_call (ea_cons (ev_var rfl) (ea_cons (ev_var rfl) ea_nil)) (sv_let mem)))) (fun _ => et_din (o := none) (ev_var rfl) (ev_var rfl) fun H5 e6 => ?_)) rfl) fun H5 e6 => ?_
    · have g := DGet.t (k := kr (rowAt rs i)) (e6 _ _ (e24 _ _ hk)) (e6 _ _ (e5 _ _ (e4 _ _ hr2)))
      rw [dk.not _ (row_new ok hi)] at g
      exact g
    · refine s_dput (g := fun H6 => L2.upd H6 d (.dT (putK kvs (kr (rowAt rs i)) (.bl true)))) ev_c (ev_var rfl) (ev_var rfl) (fun H6 e7 => ?_) fun H6 e7 => ?_
      · refine DPut.t (k := kr (rowAt rs i)) (e7 _ _ (e6 _ _ (e24 _ _ hk))) (e7 _ _ (e6 _ _ (e5 _ _ (e4 _ _ hr2)))) (sz_lt ?_)
        rw [dk.len, List.length_take]
        omega
      · refine ⟨⟨_, _, _, _, rfl⟩, ((e3.trans e24).trans (e6.trans e7)).mut hd, _, upd_same, ?_⟩
        rw [take_row hi]
        exact dk.put (v' := fun _ => .bl true) (row_new ok hi) fun _ _ => rfl
  · intro σ' H' p
    exact q H' p.2.1
theorem sv_ckr {al : List Nat} {a : Addr} {xs : List V} {rs : Rw} {H : Hp} (hT : SqT K H a xs) (hR : RowsAt H xs rs) (ok : RowsOk al rs) (hz : rs.length ≤ 20100) : SpV (spCkR K) ([tx al, .ref a] ++ []) H .non := fun _ e _ q _ => ⟨al, a, xs, rs, rfl, ex_t e hT, hR.mono e, ok, hz, q⟩
/-! ### pieces_of, starts_of -/
theorem pcs_at (rs : Rw) (k : Nat) : ((pcs rs).getD k []).length ≤ rs.length := by
  induction rs using snoc_ind generalizing k with
  | h0 =>
    show (([[]] : List (List Nat)).getD k []).length ≤ 0
    match k with
    | 0 => exact Nat.le_refl 0
    | k + 1 => exact Nat.le_refl 0
  | hs rs r ih =>
    rw [pcs_snoc, List.getD_eq_getElem?_getD, List.length_append]
    show _ ≤ rs.length + 1
    by_cases h : k < (pcs rs).length
    · rw [List.getElem?_append_left h, ← List.getD_eq_getElem?_getD]
      have := ih k
      omega
    · rw [List.getElem?_append_right (by omega)]
      by_cases h2 : k - (pcs rs).length = 0
      · rw [h2]
        show ((pcs rs).getD r.1 [] ++ [r.2]).length ≤ _
        rw [List.length_append]
        have := ih r.1
        show _ + 1 ≤ _
        omega
      · obtain ⟨j, hj⟩ := Nat.exists_eq_succ_of_ne_zero h2
        rw [hj]
        show ([] : List Nat).length ≤ _
        exact Nat.zero_le _
def spPcs (K : PySem.W.Frag) : Sp := fun vs H Q _ => ∃ (al : List Nat) (a : Addr) (xs : List V) (rs : Rw), vs = [.ref a] ∧ SqT K H a xs ∧ RowsAt H xs rs ∧ RowsOk al rs ∧ rs.length ≤ 20100 ∧ RetU ((pcs rs).map tx) H Q
theorem has_pcs (F : At K mg "pieces_of" s_pieces_of) (T : Top K mg C_Cut C_Round) : Has P w K mg base "pieces_of" s_pieces_of ["rows"] 1 (spPcs K) := by
  obtain ⟨f, fd, F, m⟩ := F.ex
  refine ⟨f, fd, F, F.ok S_pieces_of (fun vs H Q E h => ?_) (fun cdv A outer s H vs Q E hr h => ?_), F.binds fun _ _ _ _ _ _ us hl => match us, hl with | [_], _ => rfl, m, F.kp⟩
  · obtain ⟨al, a, xs, rs, rfl, _⟩ := h
    rfl
  obtain ⟨al, a, xs, rs, rfl, hT, hR, ok, hz, q⟩ := h
  refine ⟨_, (pss_cons
    (ps_set (i := 1) S_pieces_of.nd rfl (Or.inl rfl) (pe_lst (pa_cons pe_str pa_nil)))
    (pss_cons
    (ps_for PassesOwn.never rfl (pi_tup (pv 0)) (pg_tup rfl (pgs_cons (pg_name (i := 2) S_pieces_of.nd rfl (Or.inl rfl)) (pgs_cons (pg_name (i := 3) S_pieces_of.nd rfl (Or.inl rfl)) pgs_nil))) (pss_one
    (ps_expr (pe_bm PySem.F.plainAttrs_list PySem.F.slot_list_append PySem.F.type_list_append mt_append (pv 1) (pa_cons (pe_op op_add_str (pe_ix (r := rIxL K) ix_list (pv 1) (pv 2) (fun _ _ => rfl)) (pv 3)) pa_nil)))))
    (pss_one
    (ps_ret (pe_callTy call_tuple_of rfl T.z_tuple (by decide +kernel) (pa_cons (pv 1) pa_nil)))))), ?_⟩
  refine q_asgL (xs := [tx []]) (el_lst (ea_cons (ev_is ev_c (by rw [nil_is])) ea_nil) (by show 1 ≤ 100000; decide)) fun l H1 hl e1 h1 => ?_
  refine q_forRows (ev_var rfl) (ex_t e1 hT) (hR.mono e1) (fun i σ' H' => (∃ u v, σ' = [some (.ref a), some (.ref l), u, v]) ∧ Ex H H' ∧ H' l = some (.lst ((pcs (rs.take i)).map tx))) ?_ ?_ ?_ ?_
  · intro H2 e2
    exact ⟨⟨none, none, rfl⟩, e1.trans e2, e2 _ _ h1⟩
  · intro i σ' H' p
    exact ⟨ex_t p.2.1 hT, hR.mono p.2.1⟩
  · intro i σ' H' hi p
    obtain ⟨⟨u, v, rfl⟩, e2, h2⟩ := p
    obtain ⟨low, mem⟩ := row_ok ok hi
    have hlen : (pcs (rs.take i)).length = i + 1 := by
      rw [pcs_len, List.length_take]
      omega
    have hlt : (rowAt rs i).1 < (pcs (rs.take i)).length := by omega
    have hpl := pcs_at (rs.take i) (rowAt rs i).1
    rw [List.length_take] at hpl
    have hg : ((pcs (rs.take i)).map tx)[(rowAt rs i).1]? = some (tx ((pcs (rs.take i)).getD (rowAt rs i).1 [])) := by
      rw [List.getElem?_map, List.getD_eq_getElem?_getD, List.getElem?_eq_getElem hlt]
      rfl
    refine s_app h2 (ev_var rfl) (ev_catS (b := [(rowAt rs i).2]) (by show _ + 1 ≤ 100000; omega) (ev_op (ev_var rfl) (ev_var rfl) (rv_ixL (sq_of h2) (atI_nat hg))) (ev_var rfl)) (by rw [List.length_map]; omega) fun H3 e3 => ⟨⟨_, _, rfl⟩, (e2.trans e3).mut hl, ?_⟩
    rw [take_row hi, pcs_snoc, List.map_append]
    exact upd_same
  · intro σ' H' p
    obtain ⟨⟨u, v, rfl⟩, e2, h2⟩ := p
    rw [List.take_length] at h2
    exact s_retU (eu_tupOf (ev_var rfl) (sq_of h2)) fun r H3 hr e3 h3 => q r H3 (fresh_back e2 hr) (e2.trans e3) h3
theorem su_pcs {al : List Nat} {a : Addr} {xs : List V} {rs : Rw} {H : Hp} (hT : SqT K H a xs) (hR : RowsAt H xs rs) (ok : RowsOk al rs) (hz : rs.length ≤ 20100) : SpU (spPcs K) ([.ref a] ++ []) H ((pcs rs).map tx) := fun _ e _ q _ => ⟨al, a, xs, rs, rfl, ex_t e hT, hR.mono e, ok, hz, q⟩
def sts (ps : List (List Nat)) : List Int := (List.range ps.length).map fun i => (((ps.drop 1).take i).flatten.length : Int)
def spSts (K : PySem.W.Frag) : Sp := fun vs H Q _ => ∃ (a : Addr) (ps : List (List Nat)), vs = [.ref a] ∧ SqT K H a (ps.map tx) ∧ 1 ≤ ps.length ∧ ps.length ≤ 40200 ∧ ps.flatten.length ≤ 50000 ∧ RetU ((sts ps).map V.int) H Q
theorem flat_take (ps : List (List Nat)) (i : Nat) : (ps.take i).flatten.length ≤ ps.flatten.length := by
  conv => rhs; rw [← List.take_append_drop i ps, List.flatten_append, List.length_append]
  omega
theorem has_sts (F : At K mg "starts_of" s_starts_of) (T : Top K mg C_Cut C_Round) : Has P w K mg base "starts_of" s_starts_of ["pieces"] 1 (spSts K) := by
  obtain ⟨f, fd, F, m⟩ := F.ex
  refine ⟨f, fd, F, F.ok S_starts_of (fun vs H Q E h => ?_) (fun cdv A outer s H vs Q E hr h => ?_), F.binds fun _ _ _ _ _ _ us hl => match us, hl with | [_], _ => rfl, m, F.kp⟩
  · obtain ⟨a, ps, rfl, _⟩ := h
    rfl
  obtain ⟨a, ps, rfl, hT, h1p, hz, hfl, q⟩ := h
  refine ⟨_, (pss_cons
    (ps_set (i := 1) S_starts_of.nd rfl (Or.inl rfl) (pe_lst pa_nil))
    (pss_cons
    (ps_set (i := 2) S_starts_of.nd rfl (Or.inl rfl) pe_int)
    (pss_cons
    (ps_for PassesOwn.never rfl (pi_tup (pe_slice sl_tup (pv 0) (po_some pe_int) po_none)) (pg_name (i := 3) S_starts_of.nd rfl (Or.inl rfl)) (pss_cons
    (ps_expr (pe_bm PySem.F.plainAttrs_list PySem.F.slot_list_append PySem.F.type_list_append mt_append (pv 1) (pa_cons (pv 2) pa_nil)))
    (pss_one
    (ps_aug (i := 2) S_starts_of.nd rfl (Or.inl rfl) (pe_callB call_len_str rfl T.z_len PySem.boot_len (pa_cons (pv 3) pa_nil)) ip_add))))
    (pss_cons
    (ps_expr (pe_bm PySem.F.plainAttrs_list PySem.F.slot_list_append PySem.F.type_list_append mt_append (pv 1) (pa_cons (pv 2) pa_nil)))
    (pss_one
    (ps_ret (pe_callTy call_tuple_of rfl T.z_tuple (by decide +kernel) (pa_cons (pv 1) pa_nil)))))))), ?_⟩
  have hdl : (ps.drop 1).flatten.length ≤ 50000 := by
    have : ps.flatten.length = (ps.take 1).flatten.length + (ps.drop 1).flatten.length := by
      conv => lhs; rw [← List.take_append_drop 1 ps, List.flatten_append, List.length_append]
    omega
  refine q_asgL (xs := []) (el_lst ea_nil (by decide)) fun l H1 hl e1 h1 => ?_
  refine q_asg ev_c fun H2 e2 => ?_
  have e12 := e1.trans e2
  have hsl : EvU (tSl (rSlT K) (tVar 0) (tPart (tC (.int 1))) tNoPart) [some (.ref a), some (.ref l), some (.int 0), none] H2 ((ps.drop 1).map tx) := fun H3 e3 Q' q' => by
    refine ⟨_, rfl, 1, rfl, a, ps.map tx, rfl, ex_t (e12.trans e3) hT, ?_, fun r hr => ?_⟩
    · rw [show (1 : Int) = ((1 : Nat) : Int) from rfl, HT.sIx_nat, List.length_map]
      omega
    · have ec : cutV (ps.map tx) (some 1) none = (ps.drop 1).map tx := by
        unfold cutV
        rw [show (1 : Int) = ((1 : Nat) : Int) from rfl, HT.sIx_nat, HT.sIx_none, List.length_map, Nat.min_eq_left h1p, List.map_drop]
        exact List.take_of_length_le (by rw [List.length_drop, List.length_map]; omega)
      rw [ec]
      exact q' r _ hr (Ex.new hr) upd_same
  refine hsl H2 (Ex.refl H2) _ fun s2 H3 hs2 e3 h3 => ?_
  refine ⟨s2, rfl, ⟨_, st_of h3⟩, for_tup (xs := (ps.drop 1).map tx) (fun i σ' H' => (∃ u, σ' = [some (.ref a), some (.ref l), some (.int ((((ps.drop 1).take i).flatten.length : Nat) : Int)), u]) ∧ Ex H H' ∧ H' s2 = some (.tup ((ps.drop 1).map tx)) ∧ H' l = some (.lst (((List.range i).map fun i => (((ps.drop 1).take i).flatten.length : Int)).map V.int))) ?_ ?_ ?_ ?_⟩
  · exact ⟨⟨none, rfl⟩, e12.trans e3, h3, e3 _ _ (e2 _ _ h1)⟩
  · intro i σ' H' _ p
    exact st_of p.2.2.1
  · intro i x σ' H' hx p
    obtain ⟨⟨u, rfl⟩, e4, h4, h5⟩ := p
    rw [List.getElem?_map] at hx
    cases hp : (ps.drop 1)[i]? with
    | none =>
      rw [hp] at hx
      cases hx
    | some pc =>
    rw [hp] at hx
    cases hx
    have hi := (List.getElem?_eq_some_iff.mp hp).1
    rw [List.length_drop] at hi
    have et : (ps.drop 1).take (i + 1) = (ps.drop 1).take i ++ [pc] := by
      rw [List.take_add_one, hp]
      rfl
    have hf := flat_take (ps.drop 1) (i + 1)
    rw [et, List.flatten_append, List.length_append] at hf
    have hpc : [pc].flatten.length = pc.length := by simp
    have nls : l ≠ s2 := ne_of h5 h4 (by intro z; cases z)
    refine q_app h5 (ev_var rfl) (ev_var rfl) (by rw [List.length_map, List.length_map, List.length_range]; omega) fun H4 e5 => ?_
    refine s_aug (f := fun a b => a + b) (a := (((ps.drop 1).take i).flatten.length : Int)) rfl (ev_lenS (l := pc) (by omega) (ev_var rfl)) fun H5 e6 => ⟨⟨some (tx pc), ?_⟩, ((e4.trans e5).mut hl).trans e6, ?_, ?_⟩
    · rw [et, List.flatten_append, List.length_append, hpc, Int.natCast_add]
      rfl
    · refine e6 _ _ ?_
      rw [upd_ne nls.symm]
      exact e5 _ _ h4
    · refine e6 _ _ ?_
      rw [map_range_succ]
      exact upd_same
  · intro σ' H' p
    obtain ⟨⟨u, rfl⟩, e4, h4, h5⟩ := p
    have hln : ((ps.drop 1).map tx).length = ps.length - 1 := by rw [List.length_map, List.length_drop]
    rw [hln] at h5 ⊢
    refine q_app h5 (ev_var rfl) (ev_var rfl) (by rw [List.length_map, List.length_map, List.length_range]; omega) fun H4 e5 => ?_
    rw [← map_range_succ (fun i => (((ps.drop 1).take i).flatten.length : Int))]
    have e7 : ps.length - 1 + 1 = ps.length := by omega
    rw [e7]
    exact s_retU (xs := (sts ps).map V.int) (eu_tupOf (ev_var rfl) (sq_of upd_same)) fun r H5 hr e6 h6 => q r H5 (fresh_back ((e4.trans e5).mut hl) hr) (((e4.trans e5).mut hl).trans e6) h6
theorem su_sts {a : Addr} {ps : List (List Nat)} {H : Hp} (hT : SqT K H a (ps.map tx)) (h1 : 1 ≤ ps.length) (hz : ps.length ≤ 40200) (hf : ps.flatten.length ≤ 50000) : SpU (spSts K) ([.ref a] ++ []) H ((sts ps).map V.int) := fun _ e _ q _ => ⟨a, ps, rfl, ex_t e hT, h1, hz, hf, q⟩
end
end Ver
namespace Ver
open PySem PySem.Spec PyProof.Rows L2 Evl
/-! ### the fields of a Cut -/
def cutFs (al : List Nat) (ra : Addr) (t : Int) (pa : Addr) (m : Int) (tt : List Nat) (sa : Addr) : List (Str × V) :=
  putF "starts" (.ref sa) (putF "text" (tx tt) (putF "many" (.int m) (putF "pieces" (.ref pa) (putF "tail" (.int t) (putF "rows" (.ref ra) (putF "alphabet" (tx al) []))))))
theorem putF_len (f : Str) (y : V) : ∀ fs : List (Str × V), (putF f y fs).length ≤ fs.length + 1
  | [] => Nat.le_refl _
  | p :: r => by
    unfold putF
    split
    · show _ ≤ r.length + 1 + 1
      simp
    · have := putF_len f y r
      show (putF f y r).length + 1 ≤ r.length + 1 + 1
      omega
structure CutAt (C : Addr) (H : Hp) (p : Addr) (al : List Nat) (rs : Rw) (t : Nat) : Prop where
  ex : ∃ (dx ra pa sa : Addr) (xs : List V), H p = some (.ins C dx (cutFs al ra (t : Int) pa (rs.length : Int) ((pcs rs).flatten ++ (pcs rs).getD t []) sa)) ∧
    H ra = some (.tup xs) ∧ RowsAt H xs rs ∧ H pa = some (.tup ((pcs rs).map tx)) ∧ H sa = some (.tup ((sts (pcs rs)).map V.int))
theorem CutAt.mono {C : Addr} {H H' : Hp} {p : Addr} {al : List Nat} {rs : Rw} {t : Nat} (h : CutAt C H p al rs t) (e : Ex H H') : CutAt C H' p al rs t := by
  obtain ⟨dx, ra, pa, sa, xs, h1, h2, h3, h4, h5⟩ := h.ex
  exact ⟨dx, ra, pa, sa, xs, e _ _ h1, e _ _ h2, h3.mono e, e _ _ h4, e _ _ h5⟩
theorem fs_rows {al : List Nat} {ra pa sa : Addr} {t m : Int} {tt : List Nat} : (cutFs al ra t pa m tt sa).lookup ("rows" : Str) = some (.ref ra) := by
  unfold cutFs
  rw [lookup_putF, if_neg (by decide +kernel), lookup_putF, if_neg (by decide +kernel), lookup_putF, if_neg (by decide +kernel), lookup_putF, if_neg (by decide +kernel), lookup_putF, if_neg (by decide +kernel), lookup_putF, if_pos rfl]
theorem fs_many {al : List Nat} {ra pa sa : Addr} {t m : Int} {tt : List Nat} : (cutFs al ra t pa m tt sa).lookup ("many" : Str) = some (.int m) := by
  unfold cutFs
  rw [lookup_putF, if_neg (by decide +kernel), lookup_putF, if_neg (by decide +kernel), lookup_putF, if_pos rfl]
theorem fs_tail {al : List Nat} {ra pa sa : Addr} {t m : Int} {tt : List Nat} : (cutFs al ra t pa m tt sa).lookup ("tail" : Str) = some (.int t) := by
  unfold cutFs
  rw [lookup_putF, if_neg (by decide +kernel), lookup_putF, if_neg (by decide +kernel), lookup_putF, if_neg (by decide +kernel), lookup_putF, if_neg (by decide +kernel), lookup_putF, if_pos rfl]
/-- on the way: the instance at p has the fields fs, the rows stand at ra -/
structure Way (C : Addr) (H0 : Hp) (p dx ra : Addr) (ys : List V) (rs : Rw) (fs : List (Str × V)) (H : Hp) : Prop where
  e : Ex H0 H
  ins : H p = some (.ins C dx fs)
  row : H ra = some (.tup ys)
  rat : RowsAt H ys rs
theorem Way.mono {C : Addr} {H0 : Hp} {p dx ra : Addr} {ys : List V} {rs : Rw} {fs : List (Str × V)} {H H' : Hp} (h : Way C H0 p dx ra ys rs fs H) (e : Ex H H') : Way C H0 p dx ra ys rs fs H' := ⟨h.e.trans e, e _ _ h.ins, e _ _ h.row, h.rat.mono e⟩
theorem tup_upd {H : Hp} {p q C dx : Addr} {fs gs : List (Str × V)} {ys : List V} (hp : H p = some (.ins C dx fs)) (h : H q = some (.tup ys)) : (upd H p (.ins C dx gs)) q = some (.tup ys) := by
  rw [upd_ne (ne_of h hp (by intro z; cases z))]
  exact h
theorem Way.put {C : Addr} {H0 : Hp} {p dx ra : Addr} {ys : List V} {rs : Rw} {fs gs : List (Str × V)} {H : Hp} (h : Way C H0 p dx ra ys rs fs H) (hp : H0 p = none) : Way C H0 p dx ra ys rs gs (upd H p (.ins C dx gs)) :=
  ⟨h.e.mut hp, upd_same, tup_upd h.ins h.row, h.rat.upd h.ins (fun ys => by intro z; cases z)⟩
section
variable {P : Program} {w : World} {K : PySem.W.Frag} {mg : Str → Option Value} {base : Heap} {C_Cut : Addr} {C_Round : Addr}
/-! ### Cut.__init__ -/
def spInit (C : Addr) : Sp := fun vs H Q _ => ∃ (al : List Nat) (p a dx : Addr) (t : Nat) (xs : List V) (rs : Rw) (H0 : Hp), vs = [.ref p, tx al, .ref a, .int (t : Int)] ∧ Ex H0 H ∧ H0 p = none ∧ H p = some (.ins C dx []) ∧
  Seq H0 a xs ∧ RowsS H0 xs rs ∧ Alf al ∧ RowsOk al rs ∧ t ≤ rs.length ∧ rs.length ≤ 20100 ∧ (pcs rs).flatten.length ≤ 40000 ∧ ∀ H2, Ex H0 H2 → CutAt C H2 p al rs t → Q .non H2
theorem has_init (F : AtI K C_Cut "Cut.__init__" s_Cut___init__) (T : Top K mg C_Cut C_Round) (h1 : Has P w K mg base "check_alphabet" s_check_alphabet ["alphabet"] 2 spCkAl) (h2 : Has P w K mg base "as_tuples" s_as_tuples ["value"] 4 spAs2)
    (h3 : Has P w K mg base "check_rows" s_check_rows ["alphabet", "rows"] 3 (spCkR K)) (h4 : Has P w K mg base "is_number_below" s_is_number_below ["value", "many"] 2 spBelow) (h5 : Has P w K mg base "pieces_of" s_pieces_of ["rows"] 1 (spPcs K)) (h6 : Has P w K mg base "starts_of" s_starts_of ["pieces"] 1 (spSts K)) :
    HasI P w K mg base C_Cut ["self", "alphabet", "rows", "tail"] 5 (spInit C_Cut) := by
  obtain ⟨f, fd, F, M⟩ := F.ex
  obtain ⟨f1, fd1, _, G_check_alphabet, b_check_alphabet, m_check_alphabet, k_check_alphabet⟩ := h1
  obtain ⟨f2, fd2, _, G_as_tuples, b_as_tuples, m_as_tuples, k_as_tuples⟩ := h2
  obtain ⟨f3, fd3, _, G_check_rows, b_check_rows, m_check_rows, k_check_rows⟩ := h3
  obtain ⟨f4, fd4, _, G_is_number_below, b_is_number_below, m_is_number_below, k_is_number_below⟩ := h4
  obtain ⟨f5, fd5, _, G_pieces_of, b_pieces_of, m_pieces_of, k_pieces_of⟩ := h5
  obtain ⟨f6, fd6, _, G_starts_of, b_starts_of, m_starts_of, k_starts_of⟩ := h6
  refine ⟨f, fd, F.ok S_Cut___init__ (fun vs H Q E h => ?_) (fun cdv A outer s H vs Q E hr h => ?_), F.binds fun _ _ _ _ _ _ us hl => match us, hl with | [_, _, _, _], _ => rfl, M⟩
  · obtain ⟨al, p, a, dx, t, xs, rs, H0, rfl, _⟩ := h
    rfl
  obtain ⟨al, p, a, dx, t, xs, rs, H0, rfl, e0, hp0, hp, hS, hR, hA, ok, ht, hz, hfl, q⟩ := h
  refine ⟨_, (pss_cons
    (ps_expr (pe_call G_check_alphabet (hr.mono (by decide)) rfl m_check_alphabet k_check_alphabet b_check_alphabet .nil pass0 (pa_cons (pv 1) pa_nil)))
    (pss_cons
    (ps_set (i := 4) S_Cut___init__.nd rfl (Or.inl rfl) (pe_call G_as_tuples (hr.mono (by decide)) rfl m_as_tuples k_as_tuples b_as_tuples .nil pass0 (pa_cons (pv 2) pa_nil)))
    (pss_cons
    (ps_expr (pe_call G_check_rows (hr.mono (by decide)) rfl m_check_rows k_check_rows b_check_rows .nil pass0 (pa_cons (pv 1) (pa_cons (pv 4) pa_nil))))
    (pss_cons
    (ps_if (pt_not (pt_val (pe_call G_is_number_below (hr.mono (by decide)) rfl m_is_number_below k_is_number_below b_is_number_below .nil pass0 (pa_cons (pv 3) (pa_cons (pe_op op_add (pe_callB call_len_seq rfl T.z_len PySem.boot_len (pa_cons (pv 4) pa_nil)) pe_int) pa_nil))))) (pss_one
    ps_never) pss_nil)
    (pss_cons
    (ps_fld (pv 0) (pv 1) rfl)
    (pss_cons
    (ps_fld (pv 0) (pv 4) rfl)
    (pss_cons
    (ps_fld (pv 0) (pv 3) rfl)
    (pss_cons
    (ps_fld (pv 0) (pe_call G_pieces_of (hr.mono (by decide)) rfl m_pieces_of k_pieces_of b_pieces_of .nil pass0 (pa_cons (pv 4) pa_nil)) rfl)
    (pss_cons
    (ps_fld (pv 0) (pe_callB call_len_seq rfl T.z_len PySem.boot_len (pa_cons (pv 4) pa_nil)) rfl)
    (pss_cons
    (ps_fld (pv 0) (pe_op op_add_str (pe_join pe_str (pe_fld (pv 0) rfl)) (pe_ix (r := rIxT K) ix_tup (pe_fld (pv 0) rfl) (pv 3) (fun _ _ => rfl))) rfl)
    (pss_one
    (ps_fld (pv 0) (pe_call G_starts_of (hr.mono (by decide)) rfl m_starts_of k_starts_of b_starts_of .nil pass0 (pa_cons (pe_fld (pv 0) rfl) pa_nil)) rfl)))))))))))), ?_⟩
  refine q_drop (ev_call (ea_cons (ev_var rfl) ea_nil) (sv_ckal hA)) fun H1 e1 => ?_
  -- kept = as_tuples(rows)
  refine q_callD (vs := [.ref a]) (dvs := []) (ea_cons (ev_var rfl) ea_nil) fun H2 e2 => ⟨a, xs, rs, rfl, hS.mono (e0.trans (e1.trans e2)), by rw [hR.len]; omega, hR.mono (e0.trans (e1.trans e2)), fun ra ys H3 hra e3 h3 hR3 => ?_⟩
  have e13 := (e1.trans e2).trans e3
  refine q_drop (ev_call (ea_cons (ev_var rfl) (ea_cons (ev_var rfl) ea_nil)) (sv_ckr (st_of h3) hR3 ok hz)) fun H4 e4 => ?_
  have hlen : (((ys.length : Nat) : Int)) = (rs.length : Int) := by rw [hR3.len]
  refine q_skip (et_is (et_not (et_B (ev_call (ea_cons (ev_var rfl) (ea_cons (ev_op (ev_cb (ea_cons (ev_var rfl) ea_nil) (rc_lenT (st_of (e4 _ _ h3)))) ev_c rv_I0) ea_nil)) (sv_belowT (n := (t : Int)) (m := (ys.length : Int) + 1) (by omega) (by omega))))) rfl) fun H5 e5 => ?_
  have e05 := e13.trans (e4.trans e5)
  have h5 := e5 _ _ (e4 _ _ h3)
  have hR5 := hR3.mono (e4.trans e5)
  have cl := T.cl_Cut
  -- fields
  have w5 : Way C_Cut H0 p dx ra ys rs [] H5 := ⟨e0.trans e05, e05 _ _ hp, h5, hR5⟩
  have small : ∀ (f : Str) (y : V) (fs : List (Str × V)) (n : Nat), fs.length ≤ n → (putF f y fs).length ≤ n + 1 := fun f y fs n h => Nat.le_trans (putF_len f y fs) (by omega)
  refine q_fld (ev_var rfl) (ev_var rfl) w5.ins cl T.n_Cut_alphabet (by show 0 < 1000; decide) fun H6 e6 => ?_
  have w6 := (w5.mono e6).put (gs := putF "alphabet" (tx al) []) hp0
  have z6 := small "alphabet" (tx al) [] 0 (Nat.le_refl 0)
  generalize hf6 : putF ("alphabet" : Str) (tx al) [] = F6 at w6 z6 ⊢
  generalize upd H6 p (.ins C_Cut dx F6) = G6 at w6 ⊢
  refine q_fld (ev_var rfl) (ev_var rfl) w6.ins cl T.n_Cut_rows (by omega) fun H7 e7 => ?_
  have w7 := (w6.mono e7).put (gs := putF "rows" (.ref ra) F6) hp0
  have z7 := small "rows" (.ref ra) F6 1 (by omega)
  generalize hf7 : putF ("rows" : Str) (.ref ra) F6 = F7 at w7 z7 ⊢
  generalize upd H7 p (.ins C_Cut dx F7) = G7 at w7 ⊢
  refine q_fld (ev_var rfl) (ev_var rfl) w7.ins cl T.n_Cut_tail (by omega) fun H8 e8 => ?_
  have w8 := (w7.mono e8).put (gs := putF "tail" (.int (t : Int)) F7) hp0
  have z8 := small "tail" (.int (t : Int)) F7 2 (by omega)
  generalize hf8 : putF ("tail" : Str) (.int (t : Int)) F7 = F8 at w8 z8 ⊢
  generalize upd H8 p (.ins C_Cut dx F8) = G8 at w8 ⊢
  refine q_fldU (eu_call (ea_cons (ev_var rfl) ea_nil) (su_pcs (st_of w8.row) w8.rat ok hz)) (fun H9 e9 => ev_var rfl) w8.ins cl T.n_Cut_pieces (by omega) fun pa H9 hpa e9 h9 => ?_
  have h9' := tup_upd (gs := putF "pieces" (.ref pa) F8) (w8.mono e9).ins h9
  have w9 := (w8.mono e9).put (gs := putF "pieces" (.ref pa) F8) hp0
  have z9 := small "pieces" (.ref pa) F8 3 (by omega)
  have lk : (putF ("pieces" : Str) (.ref pa) F8).lookup ("pieces" : Str) = some (.ref pa) := by rw [lookup_putF, if_pos rfl]
  generalize hf9 : putF ("pieces" : Str) (.ref pa) F8 = F9 at w9 z9 lk h9' ⊢
  generalize upd H9 p (.ins C_Cut dx F9) = G9 at w9 h9' ⊢
  refine q_fld (ev_is (ev_cb (ea_cons (ev_var rfl) ea_nil) (rc_lenT (st_of w9.row))) (by rw [hlen])) (ev_var rfl) w9.ins cl T.n_Cut_many (by omega) fun H10 e10 => ?_
  have h10 := tup_upd (gs := putF "many" (.int (rs.length : Int)) F9) (w9.mono e10).ins (e10 _ _ h9')
  have w10 := (w9.mono e10).put (gs := putF "many" (.int (rs.length : Int)) F9) hp0
  have z10 := small "many" (.int (rs.length : Int)) F9 4 (by omega)
  have lk10 : (putF ("many" : Str) (.int (rs.length : Int)) F9).lookup ("pieces" : Str) = some (.ref pa) := by rw [lookup_putF, if_neg (by decide +kernel)]; exact lk
  generalize hf10 : putF ("many" : Str) (.int (rs.length : Int)) F9 = F10 at w10 z10 lk10 h10 ⊢
  generalize upd H10 p (.ins C_Cut dx F10) = G10 at w10 h10 ⊢
  have htl : t < (pcs rs).length := by
    rw [pcs_len]
    omega
  have hg : ((pcs rs).map tx)[t]? = some (tx ((pcs rs).getD t [])) := by
    rw [List.getElem?_map, List.getD_eq_getElem?_getD, List.getElem?_eq_getElem htl]
    rfl
  have hpt := pcs_at rs t
  refine q_fld (v := tx ((pcs rs).flatten ++ (pcs rs).getD t [])) (ev_catS (by omega) (ev_joinB (ev_is ev_c (by rw [nil_is])) (ev_fld (ev_var rfl) w10.ins cl T.n_Cut_pieces lk10) (.inr (st_of h10)) (by omega)) (ev_op (ev_fld (ev_var rfl) w10.ins cl T.n_Cut_pieces lk10) (ev_var rfl) (rv_ixT (st_of h10) (atI_nat hg)))) (ev_var rfl) w10.ins cl T.n_Cut_text (by omega) fun H11 e11 => ?_
  have h11 := tup_upd (gs := putF "text" (tx ((pcs rs).flatten ++ (pcs rs).getD t [])) F10) (w10.mono e11).ins (e11 _ _ h10)
  have w11 := (w10.mono e11).put (gs := putF "text" (tx ((pcs rs).flatten ++ (pcs rs).getD t [])) F10) hp0
  have z11 := small "text" (tx ((pcs rs).flatten ++ (pcs rs).getD t [])) F10 5 (by omega)
  have lk11 : (putF ("text" : Str) (tx ((pcs rs).flatten ++ (pcs rs).getD t [])) F10).lookup ("pieces" : Str) = some (.ref pa) := by rw [lookup_putF, if_neg (by decide +kernel)]; exact lk10
  generalize hf11 : putF ("text" : Str) (tx ((pcs rs).flatten ++ (pcs rs).getD t [])) F10 = F11 at w11 z11 lk11 h11 ⊢
  generalize upd H11 p (.ins C_Cut dx F11) = G11 at w11 h11 ⊢
  refine s_fldU (eu_call (vs := [.ref pa]) (ea_cons (ev_fld (ev_var rfl) w11.ins cl T.n_Cut_pieces lk11) ea_nil) (su_sts (st_of h11) (by rw [pcs_len]; omega) (by rw [pcs_len]; omega) (by omega))) (fun H12 e12 => ev_var rfl) w11.ins cl T.n_Cut_starts (by omega) fun sa H12 hsa e12 h12 => ?_
  have w12 := (w11.mono e12).put (gs := putF "starts" (.ref sa) F11) hp0
  refine q _ w12.e ⟨dx, ra, pa, sa, ys, ?_, w12.row, w12.rat, tup_upd (w11.mono e12).ins (e12 _ _ h11), tup_upd (w11.mono e12).ins h12⟩
  rw [w12.ins, ← hf11, ← hf10, ← hf9, ← hf8, ← hf7, ← hf6]
  rfl
end
end Ver
namespace Ver
open PySem PySem.Spec PyProof.Rows L2 Evl
theorem idx_old {L : Rw} {r q : Nat × Nat} (h : q ∈ L) : (L ++ [r]).idxOf q = L.idxOf q := by
  rw [List.idxOf_append, if_pos h]
theorem idx_new {L : Rw} {r : Nat × Nat} (h : r ∉ L) : (L ++ [r]).idxOf r = L.length := by
  rw [List.idxOf_append, if_neg h]
  simp
theorem s_retMake {σ : L2.St} {H : Hp} {D : Ends} {C : Addr} {sp : Sp} {dvs vs : List V} {E : XK} {tp : TA} (h : EvA tp σ H vs)
    (k : ∀ H1, Ex H H1 → ∀ x dx, H1 x = none → H1 dx = none → dx ≠ x → sp (.ref x :: (vs ++ dvs)) (upd (upd H1 dx (.own x)) x (.ins C dx [])) (fun v H2 => v = .non ∧ D.rt (.ref x) H2) E) : tRet (tMake C sp dvs E tp) D σ H := h H (Ex.refl H) _ k
section
variable {P : Program} {w : World} {K : PySem.W.Frag} {mg : Str → Option Value} {base : Heap} {C_Cut : Addr} {C_Round : Addr}
/-! ### cut_of -/
def spCut (C : Addr) : Sp := fun vs H Q _ => ∃ al v : List Nat, vs = [tx al, tx v] ∧ Alf al ∧ (∀ c ∈ v, c ∈ al) ∧ v.length ≤ 20100 ∧ ∀ p H2, H p = none → Ex H H2 → CutAt C H2 p al (cutW v).1 (cutW v).2 → Q (.ref p) H2
theorem has_cut (F : At K mg "cut_of" s_cut_of) (T : Top K mg C_Cut C_Round) (h1 : Has P w K mg base "check_alphabet" s_check_alphabet ["alphabet"] 2 spCkAl) (h2 : Has P w K mg base "check_text" s_check_text ["alphabet", "text"] 1 spCkTx)
    (h3 : HasI P w K mg base C_Cut ["self", "alphabet", "rows", "tail"] 5 (spInit C_Cut)) : Has P w K mg base "cut_of" s_cut_of ["alphabet", "text"] 7 (spCut C_Cut) := by
  obtain ⟨f, fd, F, m⟩ := F.ex
  obtain ⟨f1, fd1, _, G_check_alphabet, b_check_alphabet, m_check_alphabet, k_check_alphabet⟩ := h1
  obtain ⟨f2, fd2, _, G_check_text, b_check_text, m_check_text, k_check_text⟩ := h2
  obtain ⟨f3, fd3, G_Cut___init__, b_Cut___init__, mk_Cut⟩ := h3
  refine ⟨f, fd, F, F.ok S_cut_of (fun vs H Q E h => ?_) (fun cdv A outer s H vs Q E hr h => ?_), F.binds fun _ _ _ _ _ _ us hl => match us, hl with | [_, _], _ => rfl, m, F.kp⟩
  · obtain ⟨al, v, rfl, _⟩ := h
    rfl
  obtain ⟨al, v, rfl, hA, hv, hz, q⟩ := h
  refine ⟨_, (pss_cons
    (ps_expr (pe_call G_check_alphabet (hr.mono (by decide)) rfl m_check_alphabet k_check_alphabet b_check_alphabet .nil pass0 (pa_cons (pv 0) pa_nil)))
    (pss_cons
    (ps_expr (pe_call G_check_text (hr.mono (by decide)) rfl m_check_text k_check_text b_check_text .nil pass0 (pa_cons (pv 0) (pa_cons (pv 1) pa_nil))))
    (pss_cons
    (ps_set (i := 2) S_cut_of.nd rfl (Or.inl rfl) pe_dnewT)
    (pss_cons
    (ps_set (i := 3) S_cut_of.nd rfl (Or.inl rfl) (pe_lst pa_nil))
    (pss_cons
    (ps_set (i := 4) S_cut_of.nd rfl (Or.inl rfl) pe_int)
    (pss_cons
    (ps_for PassesOwn.never rfl (pi_str (pv 1)) (pg_name (i := 5) S_cut_of.nd rfl (Or.inl rfl)) (pss_cons
    (ps_set (i := 6) S_cut_of.nd rfl (Or.inl rfl) (pe_tup (pa_cons (pv 4) (pa_cons (pv 5) pa_nil))))
    (pss_one
    (ps_if (pt_cmp (pc_din (hu_of hr) (pv 6) (pv 2))) (pss_one
    (ps_set (i := 4) S_cut_of.nd rfl (Or.inl rfl) (pe_dget (hu_of hr) (pv 2) (pv 6) (fun _ _ => rfl)))) (pss_cons
    (ps_expr (pe_bm PySem.F.plainAttrs_list PySem.F.slot_list_append PySem.F.type_list_append mt_append (pv 3) (pa_cons (pv 6) pa_nil)))
    (pss_cons
    (ps_dput (hu_of hr) (pv 2) (pv 6) (pe_callB call_len_seq rfl T.z_len PySem.boot_len (pa_cons (pv 3) pa_nil)) rfl)
    (pss_one
    (ps_set (i := 4) S_cut_of.nd rfl (Or.inl rfl) pe_int))))))))
    (pss_one
    (ps_ret (pe_make mk_Cut G_Cut___init__ (hr.mono (by decide)) rfl T.c_Cut b_Cut___init__ .nil pass0 (pa_cons (pv 0) (pa_cons (pv 3) (pa_cons (pv 4) pa_nil)))))))))))), ?_⟩
  refine q_drop (ev_call (ea_cons (ev_var rfl) ea_nil) (sv_ckal hA)) fun H1 e1 => ?_
  refine q_drop (ev_call (ea_cons (ev_var rfl) (ea_cons (ev_var rfl) ea_nil)) (sv_cktx hv (by omega))) fun H2 e2 => ?_
  refine q_newT fun d H3 hd e3 h3 => ?_
  refine q_asgL (xs := []) (el_lst ea_nil (by decide)) fun l H4 hl e4 h4 => ?_
  refine q_asg ev_c fun H5 e5 => ?_
  have e02 := e1.trans e2
  have hd0 : H d = none := fresh_back e02 hd
  have hl0 : H l = none := fresh_back (e02.trans e3) hl
  have e05 := ((e02.trans e3).trans e4).trans e5
  refine q_forS (z := SX.S v) (ev_var rfl) (fun i σ' H' => (∃ u5 u6, σ' = [some (tx al), some (tx v), some (.ref d), some (.ref l), some (.int ((cutW (v.take i)).2 : Int)), u5, u6]) ∧ Ex H H' ∧ (∃ xs, H' l = some (.lst xs) ∧ RowsAt H' xs (cutW (v.take i)).1) ∧
    ∃ kvs, H' d = some (.dT kvs) ∧ DictAt kvs (cutW (v.take i)).1 (fun r => .int (((cutW (v.take i)).1.idxOf r : Int) + 1))) ?_ ?_ ?_
  · intro H6 e6
    exact ⟨⟨none, none, rfl⟩, e05.trans e6, ⟨[], e6 _ _ (e5 _ _ h4), .nil⟩, [], e6 _ _ (e5 _ _ (e4 _ _ h3)), .nil⟩
  · intro i c σ' H' hc p
    obtain ⟨⟨u5, u6, rfl⟩, e6, ⟨xs, h6, hR⟩, kvs, h7, dk⟩ := p
    have hc2 : v[i]? = some c := hc
    have hi := (List.getElem?_eq_some_iff.mp hc2).1
    have et : v.take (i + 1) = v.take i ++ [c] := by
      rw [List.take_add_one, hc2]
      rfl
    have ko := cut_ok (al := al) (v.take i) fun x hx => hv x (List.mem_of_mem_take hx)
    rw [et, cut_snoc]
    generalize cutW (v.take i) = st at *
    obtain ⟨rs, cur⟩ := st
    have few : rs.length ≤ (v.take i).length := ko.few
    rw [List.length_take] at few
    have hxl : xs.length = rs.length := hR.len
    refine q_asgU (xs := [.int (cur : Int), tx [c]]) (eu_tup (ea_cons (ev_var rfl) (ea_cons (ev_var rfl) ea_nil)) (by show 2 ≤ 100000; decide)) fun r H7 hr e7 h8 => ?_
    have nld : l ≠ d := ne_of h6 h7 (by intro z; cases z)
    refine s_if (et_din (o := valV kvs (kr (cur, c))) (ev_var rfl) (ev_var rfl) fun H8 e8 => DGet.t (k := kr (cur, c)) (e8 _ _ (e7 _ _ h7)) (e8 _ _ h8)) (fun hb H8 e8 => ?_) (fun hb H8 e8 => ?_)
    · have hm : (cur, c) ∈ rs := by
        refine Classical.byContradiction fun hn => ?_
        rw [dk.not _ hn] at hb
        cases hb
      have hval := dk.there _ hm
      refine s_asg (v := .int ((rs.idxOf (cur, c) : Int) + 1)) (ev_dget (ev_var rfl) (ev_var rfl) fun H9 e9 => ?_) fun H9 e9 => ?_
      · have g := DGet.t (k := kr (cur, c)) (e9 _ _ (e8 _ _ (e7 _ _ h7))) (e9 _ _ (e8 _ _ h8))
        rw [hval] at g
        exact g
      · have es : cutStep (rs, cur) c = (rs, rs.idxOf (cur, c) + 1) := if_pos hm
        rw [es]
        have e69 := (e7.trans e8).trans e9
        exact ⟨⟨_, _, rfl⟩, e6.trans e69, ⟨xs, e69 _ _ h6, hR.mono e69⟩, kvs, e69 _ _ h7, dk⟩
    · have hm : (cur, c) ∉ rs := fun hm => by
        rw [dk.there _ hm] at hb
        cases hb
      have es : cutStep (rs, cur) c = (rs ++ [(cur, c)], 0) := if_neg hm
      rw [es]
      have e68 := e7.trans e8
      refine q_app (e68 _ _ h6) (ev_var rfl) (ev_var rfl) (by omega) fun H9 e9 => ?_
      have e69 := e68.trans e9
      have nrl : r ≠ l := ne_of (e9 _ _ (e8 _ _ h8)) (e69 _ _ h6) (by intro z; cases z)
      have h8' : (L2.upd H9 l (.lst (xs ++ [.ref r]))) r = some (.tup [.int (cur : Int), tx [c]]) := by
        rw [upd_ne nrl]
        exact e9 _ _ (e8 _ _ h8)
      have h7' : (L2.upd H9 l (.lst (xs ++ [.ref r]))) d = some (.dT kvs) := by
        rw [upd_ne nld.symm]
        exact e69 _ _ h7
      have h6' : (L2.upd H9 l (.lst (xs ++ [.ref r]))) l = some (.lst (xs ++ [.ref r])) := upd_same
      have hR' : RowsAt (L2.upd H9 l (.lst (xs ++ [.ref r]))) (xs ++ [.ref r]) (rs ++ [(cur, c)]) := ((hR.mono e69).upd (e69 _ _ h6) (fun ys => by intro z; cases z)).snoc h8'
      have e6' : Ex H (L2.upd H9 l (.lst (xs ++ [.ref r]))) := (e6.trans e69).mut hl0
      generalize L2.upd H9 l (.lst (xs ++ [.ref r])) = G at *
      have ev : ((((xs ++ [V.ref r]).length : Nat) : Int)) = ((rs.length : Nat) : Int) + 1 := by
        rw [List.length_append, hxl]
        rfl
      refine q_dput (g := fun H10 => L2.upd H10 d (.dT (putK kvs (kr (cur, c)) (.int ((rs.length : Int) + 1))))) (ev_is (ev_cb (ea_cons (ev_var rfl) ea_nil) (rc_lenL (sq_of h6'))) (by rw [ev])) (ev_var rfl) (ev_var rfl) (fun H10 e10 => ?_) fun H10 e10 => ?_
      · exact DPut.t (k := kr (cur, c)) (e10 _ _ h7') (e10 _ _ h8') (sz_lt (by rw [dk.len]; show rs.length < 100000; omega))
      · refine s_asg ev_c fun H11 e11 => ⟨⟨_, _, rfl⟩, ((e6'.trans e10).mut hd0).trans e11, ⟨_, e11 _ _ (by rw [upd_ne nld]; exact e10 _ _ h6'), ((hR'.mono e10).upd (e10 _ _ h7') (fun ys => by intro z; cases z)).mono e11⟩, _, e11 _ _ upd_same, ?_⟩
        have g := dk.put (v' := fun r => V.int (((rs ++ [(cur, c)]).idxOf r : Int) + 1)) hm (fun q hq => by
          show V.int (((rs ++ [(cur, c)]).idxOf q : Int) + 1) = V.int ((rs.idxOf q : Int) + 1)
          rw [idx_old hq])
        have ei : (rs ++ [(cur, c)]).idxOf (cur, c) = rs.length := idx_new hm
        have g2 : DictAt (putK kvs (kr (cur, c)) (V.int (((rs ++ [(cur, c)]).idxOf (cur, c) : Int) + 1))) (rs ++ [(cur, c)]) (fun r => V.int (((rs ++ [(cur, c)]).idxOf r : Int) + 1)) := g
        rw [ei] at g2
        exact g2
  · intro σ' H' p
    obtain ⟨⟨u5, u6, rfl⟩, e6, ⟨xs, h6, hR⟩, kvs, h7, dk⟩ := p
    have ef : v.take (SX.S v).cps.size = v := by
      show v.take v.toArray.size = v
      simp
    rw [ef] at hR dk ⊢
    have ko := cut_ok (al := al) v hv
    generalize cutW v = st at *
    obtain ⟨rs, cur⟩ := st
    have few : rs.length ≤ v.length := ko.few
    have word : v = (pcs rs).flatten ++ (pcs rs).getD cur [] := ko.word
    have hfl := congrArg List.length word
    rw [List.length_append] at hfl
    refine s_retMake (ea_cons (ev_var rfl) (ea_cons (ev_var rfl) (ea_cons (ev_var rfl) ea_nil))) fun H7 e7 x dx hx hdx ne => ?_
    have en : Ex H7 (L2.upd (L2.upd H7 dx (.own x)) x (.ins C_Cut dx [])) := (Ex.new hdx).trans (Ex.new (by rw [upd_ne ne.symm]; exact hx))
    refine ⟨al, x, l, dx, cur, xs, rs, H7, rfl, en, hx, upd_same, .inl (e7 _ _ h6), (hR.mono e7).toS, hA, ko.ok, ko.low, by omega, by omega, fun H8 e8 hc => ⟨rfl, q x H8 (fresh_back (e6.trans e7) hx) ((e6.trans e7).trans e8) hc⟩⟩
end
end Ver
namespace Ver
open PySem PySem.Spec PyProof.Rows L2 Evl
section
variable {P : Program} {w : World} {K : PySem.W.Frag} {mg : Str → Option Value} {base : Heap} {C_Cut : Addr} {C_Round : Addr}
theorem has_width (F : At K mg "width" s_width) : Has P w K mg base "width" s_width ["options"] 1 spWidth := by
  obtain ⟨f, fd, F, m⟩ := F.ex
  refine ⟨f, fd, F, F.ok S_width (fun vs H Q E h => ?_) (fun cdv A outer s H vs Q E hr h => ?_), F.binds fun _ _ _ _ _ _ us hl => match us, hl with | [_], _ => rfl, m, F.kp⟩
  · obtain ⟨n, rfl, _⟩ := h
    rfl
  obtain ⟨n, rfl, q⟩ := h
  refine ⟨_, (pss_one
    (ps_ret (pe_bits (pe_op op_sub (pv 0) pe_int)))), ?_⟩
  refine ⟨_, rfl, _, _, rfl, rfl, _, rfl, ?_⟩
  exact q H (Ex.refl H)
theorem kb_width {f : Addr} {fd : FuncData} (F : Fun K "width" "width" s_width f fd) : KBn K fd ["options"] 0 ["options"] (fun _ ws => ws) (fun _ ws => ws) := by
  obtain ⟨oc, od, kV, doc, pm, an, cdv, ct, osl, rfl, lk, hcd⟩ := F.ex
  refine ⟨fun s us ws X l1 l2 => ?_, fun r1 r2 => r2⟩
  match us, ws, l1, l2 with
  | [], [v], _, _ => exact .of_eq rfl
end
end Ver
namespace Ver
open PySem PySem.Spec PyProof.Rows L2 Evl
section
variable {P : Program} {w : World} {K : PySem.W.Frag} {mg : Str → Option Value} {base : Heap} {C_Cut : Addr} {C_Round : Addr}
theorem has_nb (F : At K mg "number_bits" s_number_bits) (T : Top K mg C_Cut C_Round) (hW : Has P w K mg base "width" s_width ["options"] 1 spWidth) : Has P w K mg base "number_bits" s_number_bits ["number", "options"] 2 spNb := by
  obtain ⟨f, fd, F, m⟩ := F.ex
  obtain ⟨f1, fd1, _, G_width, b_width, m_width, k_width⟩ := hW
  refine ⟨f, fd, F, F.ok S_number_bits (fun vs H Q E h => ?_) (fun cdv A outer s H vs Q E hr h => ?_), F.binds fun _ _ _ _ _ _ us hl => match us, hl with | [_, _], _ => rfl, m, F.kp⟩
  · obtain ⟨n, m, rfl, _⟩ := h
    rfl
  obtain ⟨n, m, rfl, h0, hm, hB, q⟩ := h
  refine ⟨_, (pss_cons
    (ps_set (i := 2) S_number_bits.nd rfl (Or.inl rfl) (pe_call G_width (hr.mono (by decide)) rfl m_width k_width b_width .nil pass0 (pa_cons (pv 1) pa_nil)))
    (pss_cons
    (ps_if (pt_cmpR op_eq (pv 2) pe_int (nomark _)) (pss_one
    (ps_ret pe_str)) pss_nil)
    (pss_cons
    (ps_set (i := 3) S_number_bits.nd rfl (Or.inl rfl) (pe_joined1 (pe_bin (pv 0) (pe_joined1 pe_str))))
    (pss_one
    (ps_ret (pe_bm PySem.F.plainAttrs_str PySem.F.slot_str_zfill PySem.F.type_str_zfill mt_zfill (pv 3) (pa_cons (pv 2) pa_nil))))))), ?_⟩
  have hlt := bits_lt h0 hm
  have hb0 := bits_nn m
  have hb1 := bits_le (b := 1000) (by omega) hB
  have ew : bitsOf m = (((bitsOf m).toNat : Nat) : Int) := by omega
  have en : n = ((n.toNat : Nat) : Int) := by omega
  refine q_asg (ev_call (ea_cons (ev_var rfl) ea_nil) sv_width) fun H1 e1 => ?_
  refine q_when (et_eqI (ev_var rfl) ev_c) (fun hb H2 e2 => ?_) (fun hb H2 e2 => ?_)
  · have c : bitsOf m = 0 := of_decide_eq_true hb
    refine s_ret ev_c fun H3 e3 => ?_
    have e : nb n m = Str.ofString "" := by
      unfold nb nbL
      rw [c]
      rfl
    rw [e] at q
    exact q H3 ((e1.trans e2).trans e3)
  · have c : ¬ bitsOf m = 0 := of_decide_eq_false hb
    have hn2 : n.toNat < 2 ^ 1000 := Nat.lt_of_lt_of_le hlt (Nat.pow_le_pow_right (by decide) (by omega))
    refine q_asg (ev_bin (n := n.toNat) (ev_is (ev_var rfl) (by rw [← en])) hn2) fun H3 e3 => ?_
    refine s_ret (v := .str (nb n m)) (ev_bm (ev_var rfl) (fun _ _ => rfl) (ea_cons (ev_var rfl) ea_nil) fun H4 _ Q' q' => ⟨binS n.toNat, bitsOf m, rfl, rfl, ?_, ?_⟩) fun H4 e4 => q H4 (((e1.trans e2).trans e3).trans e4)
    · rw [ew]
      have : (bitsOf m).toNat ≤ 1000 := by omega
      exact pad_ok this
    · have z := zfill_is (n := n.toNat) (w := (bitsOf m).toNat) (by omega) hlt
      rw [← ew] at z
      rw [z]
      exact q' H4 (Ex.refl H4)
end
end Ver
namespace Ver
open PySem PySem.Spec PyProof.Rows L2 Evl
/-! ### ascending lists -/
theorem bel_sorted : ∀ {T : List Nat} {v : Nat}, T.Pairwise (· < ·) → (∀ x ∈ T.take (bel T v), x < v) ∧ (∀ x ∈ T.drop (bel T v), v ≤ x)
  | [], v, _ => ⟨fun x h => by simp at h, fun x h => by simp at h⟩
  | a :: r, v, h => by
    have hr := (List.pairwise_cons.mp h).2
    have ha := (List.pairwise_cons.mp h).1
    obtain ⟨i1, i2⟩ := bel_sorted (v := v) hr
    by_cases c : a < v
    · have e : bel (a :: r) v = bel r v + 1 := by
        unfold bel
        rw [List.countP_cons, if_pos (decide_eq_true c)]
      rw [e]
      refine ⟨fun x hx => ?_, fun x hx => i2 x hx⟩
      rcases List.mem_cons.mp hx with rfl | hx
      · exact c
      · exact i1 x hx
    · have e : bel (a :: r) v = 0 := by
        unfold bel
        refine List.countP_eq_zero.mpr fun x hx => ?_
        have : a ≤ x := by
          rcases List.mem_cons.mp hx with rfl | hx
          · exact Nat.le_refl _
          · have := ha x hx
            omega
        simp
        omega
      rw [e]
      refine ⟨fun x hx => by simp at hx, fun x hx => ?_⟩
      rcases List.mem_cons.mp hx with rfl | hx
      · omega
      · have := ha x hx
        omega
theorem bel_len {T : List Nat} {v : Nat} : bel T v ≤ T.length := List.countP_le_length
theorem bel_is {T : List Nat} {v k : Nat} (hk : k ≤ T.length) (h1 : ∀ x ∈ T.take k, x < v) (h2 : ∀ x ∈ T.drop k, v ≤ x) : bel T v = k := by
  have e : bel T v = bel (T.take k) v + bel (T.drop k) v := by
    unfold bel
    rw [← List.countP_append, List.take_append_drop]
  rw [e, bel_all h1, List.length_take, Nat.min_eq_left hk]
  have z : bel (T.drop k) v = 0 := by
    unfold bel
    refine List.countP_eq_zero.mpr fun x hx => ?_
    have := h2 x hx
    simp
    omega
  omega
theorem ins_sorted {T : List Nat} {v : Nat} (h : T.Pairwise (· < ·)) (hv : v ∉ T) : (T.take (bel T v) ++ [v] ++ T.drop (bel T v)).Pairwise (· < ·) := by
  obtain ⟨i1, i2⟩ := bel_sorted (v := v) h
  have hs := h
  rw [← List.take_append_drop (bel T v) T] at hs
  obtain ⟨p1, p2, p3⟩ := List.pairwise_append.mp hs
  rw [List.append_assoc]
  refine List.pairwise_append.mpr ⟨p1, List.pairwise_cons.mpr ⟨fun x hx => ?_, p2⟩, fun x hx y hy => ?_⟩
  · have h1 := i2 x hx
    have : x ≠ v := fun e => hv (e ▸ List.mem_of_mem_drop hx)
    omega
  · rcases List.mem_cons.mp hy with rfl | hy
    · exact i1 x hx
    · exact p3 x hx y hy
theorem ins_perm {T : List Nat} {v k : Nat} : (T.take k ++ [v] ++ T.drop k).Perm (T ++ [v]) := by
  rw [List.append_assoc]
  refine (List.perm_middle (a := v) (l₁ := T.take k) (l₂ := T.drop k)).trans ?_
  rw [List.take_append_drop]
  exact (List.perm_append_comm (l₁ := [v]) (l₂ := T))
theorem wid_13 {n : Nat} (h1 : 1 ≤ n) (h : n ≤ 131072) : wid n ≤ 17 := by
  have := bits_le (m := (n : Int)) (b := 17) (by omega) (by
    show (n : Int) ≤ 131072
    omega)
  unfold wid
  omega
theorem opt_le {al : List Nat} (h : al.length ≤ 6) {k : Nat} (hk : k ≤ 20100) : opt al k ≤ 131072 := by
  unfold opt
  have : (k + 1) * al.length ≤ (k + 1) * 6 := Nat.mul_le_mul_left _ h
  omega
theorem rch_le {al : List Nat} (h : al.length ≤ 6) (hp : 1 ≤ al.length) : ∀ k, k ≤ 20101 → rch al k ≤ 17 * k
  | 0, _ => Nat.le_refl 0
  | k + 1, hk => by
    have h1 := rch_le h hp k (by omega)
    have h2 := wid_13 (by have := opt_two hp k; omega) (opt_le h (show k ≤ 20100 by omega))
    show rch al k + wid (opt al k) ≤ _
    omega
theorem bln_le {al : List Nat} (h : al.length ≤ 6) (hp : 1 ≤ al.length) {m : Nat} (hm : m ≤ 20100) : bln al m ≤ 342000 := by
  have h1 := rch_le h hp (m + 1) (by omega)
  have h2 := wid_13 (n := m + 1) (by omega) (by omega)
  unfold bln
  omega
section
variable {P : Program} {w : World} {K : PySem.W.Frag} {mg : Str → Option Value} {base : Heap} {C_Cut : Addr} {C_Round : Addr}
/-! ### free_places, count_below -/
def spFree : Sp := fun vs H Q _ => ∃ n k : Nat, vs = [.int (n : Int), .int (k : Int)] ∧ n ≤ 6 ∧ RetV (.int ((k : Int) * (n : Int) - ((k : Int) - 1))) H Q
theorem has_free (F : At K mg "free_places" s_free_places) : Has P w K mg base "free_places" s_free_places ["size", "number"] 1 spFree := by
  obtain ⟨f, fd, F, m⟩ := F.ex
  refine ⟨f, fd, F, F.ok S_free_places (fun vs H Q E h => ?_) (fun cdv A outer s H vs Q E hr h => ?_), F.binds fun _ _ _ _ _ _ us hl => match us, hl with | [_, _], _ => rfl, m, F.kp⟩
  · obtain ⟨n, k, rfl, _⟩ := h
    rfl
  obtain ⟨n, k, rfl, hn, q⟩ := h
  refine ⟨_, (pss_one
    (ps_ret (pe_op op_sub (pe_op op_mul (pv 1) (pv 0)) (pe_op op_sub (pv 1) pe_int)))), ?_⟩
  exact s_ret (ev_sub (ev_mulR (by omega) (by omega) (ev_var rfl) (ev_var rfl)) (ev_sub (ev_var rfl) ev_c)) q
theorem sv_free {n k : Nat} {H : Hp} (h : n ≤ 6) : SpV spFree ([V.int (n : Int), V.int (k : Int)] ++ []) H (.int ((k : Int) * (n : Int) - ((k : Int) - 1))) := fun _ _ _ q _ => ⟨n, k, rfl, h, q⟩
def nat (n : Nat) : V := .int (n : Int)
theorem nat_at {T : List Nat} {i : Nat} (h : i < T.length) : atI (T.map nat) (i : Int) = some (.int (T.getD i 0 : Int)) := by
  refine atI_nat ?_
  rw [List.getElem?_map, List.getD_eq_getElem?_getD, List.getElem?_eq_getElem h]
  rfl
def spBel (K : PySem.W.Frag) : Sp := fun vs H Q _ => ∃ (a : Addr) (T : List Nat) (v : Nat), vs = [.ref a, .int (v : Int)] ∧ SqL K H a (T.map nat) ∧ T.Pairwise (· < ·) ∧ T.length ≤ 30000 ∧ RetV (.int (bel T v : Int)) H Q
theorem getD_mem_take {T : List Nat} {k : Nat} {x : Nat} (h : x ∈ T.take k) : ∃ i, i < k ∧ i < T.length ∧ T.getD i 0 = x := by
  obtain ⟨i, hi, e⟩ := List.mem_iff_getElem.mp h
  rw [List.length_take] at hi
  refine ⟨i, by omega, by omega, ?_⟩
  rw [List.getElem_take] at e
  rw [List.getD_eq_getElem?_getD, List.getElem?_eq_getElem (by omega)]
  exact e
theorem getD_mem_drop {T : List Nat} {k : Nat} {x : Nat} (h : x ∈ T.drop k) : ∃ i, k ≤ i ∧ i < T.length ∧ T.getD i 0 = x := by
  obtain ⟨i, hi, e⟩ := List.mem_iff_getElem.mp h
  rw [List.length_drop] at hi
  refine ⟨k + i, by omega, by omega, ?_⟩
  rw [List.getElem_drop] at e
  rw [List.getD_eq_getElem?_getD, List.getElem?_eq_getElem (by omega)]
  exact e
theorem getD_lt {T : List Nat} (h : T.Pairwise (· < ·)) {i j : Nat} (hij : i ≤ j) (hj : j < T.length) : T.getD i 0 ≤ T.getD j 0 := by
  rw [List.getD_eq_getElem?_getD, List.getElem?_eq_getElem (by omega), List.getD_eq_getElem?_getD, List.getElem?_eq_getElem hj]
  by_cases c : i = j
  · subst c
    exact Nat.le_refl _
  · exact Nat.le_of_lt (List.pairwise_iff_getElem.mp h i j (by omega) hj (by omega))
theorem has_bel (F : At K mg "count_below" s_count_below) (T : Top K mg C_Cut C_Round) : Has P w K mg base "count_below" s_count_below ["ascending", "value"] 1 (spBel K) := by
  obtain ⟨f, fd, F, m⟩ := F.ex
  refine ⟨f, fd, F, F.ok S_count_below (fun vs H Q E h => ?_) (fun cdv A outer s H vs Q E hr h => ?_), F.binds fun _ _ _ _ _ _ us hl => match us, hl with | [_, _], _ => rfl, m, F.kp⟩
  · obtain ⟨a, L, v, rfl, _⟩ := h
    rfl
  obtain ⟨a, L, v, rfl, hS, hs, hz, q⟩ := h
  refine ⟨_, (pss_cons
    (ps_set (i := 2) S_count_below.nd rfl (Or.inl rfl) pe_int)
    (pss_cons
    (ps_set (i := 3) S_count_below.nd rfl (Or.inl rfl) (pe_callB call_len_seq rfl T.z_len PySem.boot_len (pa_cons (pv 0) pa_nil)))
    (pss_cons
    (ps_while PassesOwn.never (pt_cmpR op_lt (pv 2) (pv 3) (nomark _)) (pss_cons
    (ps_set (i := 4) S_count_below.nd rfl (Or.inl rfl) (pe_op op_fdivW (pe_op op_add (pv 2) (pv 3)) pe_int))
    (pss_one
    (ps_if (pt_cmpR op_lt (pe_ix (r := rIxL K) ix_list (pv 0) (pv 4) (fun _ _ => rfl)) (pv 1) (nomark _)) (pss_one
    (ps_set (i := 2) S_count_below.nd rfl (Or.inl rfl) (pe_op op_add (pv 4) pe_int))) (pss_one
    (ps_set (i := 3) S_count_below.nd rfl (Or.inl rfl) (pv 4)))))))
    (pss_one
    (ps_ret (pv 2)))))), ?_⟩
  refine q_asg (v := .int ((0 : Nat) : Int)) ev_c fun H1 e1 => ?_
  refine q_asg (v := .int (L.length : Int)) (ev_is (ev_cb (ea_cons (ev_var rfl) ea_nil) (rc_lenL (ex_l e1 hS))) (by rw [List.length_map])) fun H2 e2 => ?_
  refine q_while (fun n σ' H' => ∃ (lo hi : Nat) (u : Option V), σ' = [some (.ref a), some (.int (v : Int)), some (.int (lo : Int)), some (.int (hi : Int)), u] ∧ Ex H H' ∧ n = hi - lo ∧ lo ≤ hi ∧ hi ≤ L.length ∧ (∀ i, i < lo → L.getD i 0 < v) ∧ (∀ i, hi ≤ i → i < L.length → v ≤ L.getD i 0)) L.length
    ⟨0, L.length, none, rfl, e1.trans e2, rfl, Nat.zero_le _, Nat.le_refl _, fun i h => absurd h (Nat.not_lt_zero _), fun i h1 h2 => absurd h1 (by omega)⟩ ?_
  intro n σ' H' p
  obtain ⟨lo, hi, u, rfl, e3, rfl, hlh, hhl, b1, b2⟩ := p
  refine ⟨decide ((lo : Int) < (hi : Int)), et_lt (ev_var rfl) (ev_var rfl), fun hb H3 e4 => ?_, fun hb H3 e4 => ?_⟩
  · have hlt : lo < hi := by
      have := of_decide_eq_true hb
      omega
    refine ⟨fun σ2 H4 => ∃ (lo2 hi2 : Nat) (u : Option V), σ2 = [some (.ref a), some (.int (v : Int)), some (.int (lo2 : Int)), some (.int (hi2 : Int)), u] ∧ Ex H H4 ∧ hi2 - lo2 < hi - lo ∧ lo2 ≤ hi2 ∧ hi2 ≤ L.length ∧ (∀ i, i < lo2 → L.getD i 0 < v) ∧ (∀ i, hi2 ≤ i → i < L.length → v ≤ L.getD i 0),
      fun σ2 H4 ⟨lo2, hi2, u2, h1, h2, h3, h4, h5, h6, h7⟩ => ⟨hi2 - lo2, h3, lo2, hi2, u2, h1, h2, rfl, h4, h5, h6, h7⟩, ?_⟩
    have em : ((lo : Int) + (hi : Int)) / 2 = (((lo + hi) / 2 : Nat) : Int) := by omega
    refine q_asg (v := .int (((lo + hi) / 2 : Nat) : Int)) (ev_is (ev_div (i := (lo : Int) + (hi : Int)) (j := 2) (by decide) (by decide) (ev_add (ev_var rfl) (ev_var rfl)) ev_c) (by rw [em])) fun H4 e5 => ?_
    have hml : (lo + hi) / 2 < L.length := by omega
    have e35 := (e3.trans e4).trans e5
    refine s_if (et_lt (ev_op (ev_var rfl) (ev_var rfl) (rv_ixL (ex_l e35 hS) (nat_at hml))) (ev_var rfl)) (fun hb H5 e6 => ?_) (fun hb H5 e6 => ?_)
    · have c : L.getD ((lo + hi) / 2) 0 < v := by
        have := of_decide_eq_true hb
        omega
      refine s_asg (v := .int (((lo + hi) / 2 + 1 : Nat) : Int)) (ev_is (ev_add (ev_var rfl) ev_c) (by rw [Int.natCast_add]; rfl)) fun H6 e7 => ⟨(lo + hi) / 2 + 1, hi, _, rfl, (e35.trans e6).trans e7, by omega, by omega, hhl, fun i hi' => ?_, b2⟩
      have := getD_lt hs (i := i) (j := (lo + hi) / 2) (by omega) hml
      omega
    · have c : ¬ L.getD ((lo + hi) / 2) 0 < v := by
        have := of_decide_eq_false hb
        omega
      refine s_asg (ev_var rfl) fun H6 e7 => ⟨lo, (lo + hi) / 2, _, rfl, (e35.trans e6).trans e7, by omega, by omega, by omega, b1, fun i h1 h2 => ?_⟩
      have := getD_lt hs (i := (lo + hi) / 2) (j := i) h1 h2
      omega
  · have hge : ¬ lo < hi := by
      have := of_decide_eq_false hb
      omega
    have e : lo = hi := by omega
    subst e
    refine s_ret (ev_var rfl) fun H4 e5 => ?_
    have eb : bel L v = lo := bel_is hhl (fun x hx => by
      obtain ⟨i, h1, _, rfl⟩ := getD_mem_take hx
      exact b1 i h1) (fun x hx => by
      obtain ⟨i, h1, h2, rfl⟩ := getD_mem_drop hx
      exact b2 i h1 h2)
    rw [eb] at q
    exact q H4 ((e3.trans e4).trans e5)
theorem sv_bel {a : Addr} {T : List Nat} {v : Nat} {H : Hp} (hS : SqL K H a (T.map nat)) (hs : T.Pairwise (· < ·)) (hz : T.length ≤ 30000) : SpV (spBel K) ([V.ref a, V.int (v : Int)] ++ []) H (.int (bel T v : Int)) := fun _ e _ q _ => ⟨a, T, v, rfl, ex_l e hS, hs, hz, q⟩
/-! ### place_numbers -/
def spPl (K : PySem.W.Frag) : Sp := fun vs H Q _ => ∃ (al : List Nat) (a : Addr) (xs : List V) (rs : Rw), vs = [tx al, .ref a] ∧ SqT K H a xs ∧ RowsAt H xs rs ∧ RowsOk al rs ∧ Alf al ∧ rs.length ≤ 20100 ∧ RetL (((List.range rs.length).map (pnum al rs)).map nat) H Q
theorem has_pl (F : At K mg "place_numbers" s_place_numbers) (T : Top K mg C_Cut C_Round) (h1 : Has P w K mg base "count_below" s_count_below ["ascending", "value"] 1 (spBel K)) : Has P w K mg base "place_numbers" s_place_numbers ["alphabet", "rows"] 2 (spPl K) := by
  obtain ⟨f, fd, F, m⟩ := F.ex
  obtain ⟨f1, fd1, _, G_count_below, b_count_below, m_count_below, k_count_below⟩ := h1
  refine ⟨f, fd, F, F.ok S_place_numbers (fun vs H Q E h => ?_) (fun cdv A outer s H vs Q E hr h => ?_), F.binds fun _ _ _ _ _ _ us hl => match us, hl with | [_, _], _ => rfl, m, F.kp⟩
  · obtain ⟨al, a, xs, rs, rfl, _⟩ := h
    rfl
  obtain ⟨al, a, xs, rs, rfl, hT, hR, ok, hA, hz, q⟩ := h
  refine ⟨_, (pss_cons
    (ps_set (i := 2) S_place_numbers.nd rfl (Or.inl rfl) (pe_lst pa_nil))
    (pss_cons
    (ps_set (i := 3) S_place_numbers.nd rfl (Or.inl rfl) (pe_lst pa_nil))
    (pss_cons
    (ps_for PassesOwn.never rfl (pi_tup (pv 1)) (pg_tup rfl (pgs_cons (pg_name (i := 4) S_place_numbers.nd rfl (Or.inl rfl)) (pgs_cons (pg_name (i := 5) S_place_numbers.nd rfl (Or.inl rfl)) pgs_nil))) (pss_cons
    (ps_set (i := 6) S_place_numbers.nd rfl (Or.inl rfl) (pe_op op_add (pe_op op_mul (pv 4) (pe_callB call_len_str rfl T.z_len PySem.boot_len (pa_cons (pv 0) pa_nil))) (pe_bm PySem.F.plainAttrs_str PySem.F.slot_str_index PySem.F.type_str_index mt_sindex (pv 0) (pa_cons (pv 5) pa_nil))))
    (pss_cons
    (ps_set (i := 7) S_place_numbers.nd rfl (Or.inl rfl) (pe_call G_count_below (hr.mono (by decide)) rfl m_count_below k_count_below b_count_below .nil pass0 (pa_cons (pv 2) (pa_cons (pv 6) pa_nil))))
    (pss_cons
    (ps_expr (pe_bm PySem.F.plainAttrs_list PySem.F.slot_list_insert PySem.F.type_list_insert mt_insert (pv 2) (pa_cons (pv 7) (pa_cons (pv 6) pa_nil))))
    (pss_one
    (ps_expr (pe_bm PySem.F.plainAttrs_list PySem.F.slot_list_append PySem.F.type_list_append mt_append (pv 3) (pa_cons (pe_op op_sub (pv 6) (pv 7)) pa_nil))))))))
    (pss_one
    (ps_ret (pv 3)))))), ?_⟩
  have h6 := hA.six
  refine q_asgL (xs := []) (el_lst ea_nil (by decide)) fun l H1 hl e1 g1 => ?_
  refine q_asgL (xs := []) (el_lst ea_nil (by decide)) fun n H2 hn e2 g2 => ?_
  have e12 := e1.trans e2
  have hn0 : H n = none := fresh_back e1 hn
  have nln : l ≠ n := ne_of_none g1 hn
  refine q_forRows (ev_var rfl) (ex_t e12 hT) (hR.mono e12) (fun i σ' H' => (∃ u4 u5 u6 u7, σ' = [some (tx al), some (.ref a), some (.ref l), some (.ref n), u4, u5, u6, u7]) ∧ Ex H H' ∧
    (∃ L : List Nat, H' l = some (.lst (L.map nat)) ∧ L.Pairwise (· < ·) ∧ L.Perm (pls al (rs.take i))) ∧ H' n = some (.lst (((List.range i).map (pnum al rs)).map nat))) ?_ ?_ ?_ ?_
  · intro H3 e3
    exact ⟨⟨none, none, none, none, rfl⟩, e12.trans e3, ⟨[], e3 _ _ (e2 _ _ g1), List.Pairwise.nil, List.Perm.refl _⟩, e3 _ _ g2⟩
  · intro i σ' H' p
    exact ⟨ex_t p.2.1 hT, hR.mono p.2.1⟩
  · intro i σ' H' hi p
    obtain ⟨⟨u4, u5, u6, u7, rfl⟩, e3, ⟨L, h3, hs, hp⟩, h4⟩ := p
    obtain ⟨low, mem⟩ := row_ok ok hi
    have hfree := free_row hA.asc ok hi
    have hnd := pls_nd hA.asc (ok.take i)
    have hLl : L.length = i := by
      rw [hp.length_eq]
      unfold pls
      rw [List.length_map, List.length_take]
      omega
    have hin : al[al.idxOf (rowAt rs i).2]? = some (rowAt rs i).2 := by
      have h1 := List.idxOf_lt_length_of_mem mem
      rw [List.getElem?_eq_getElem h1, List.getElem_idxOf h1]
    have hbl : bel L (plc al (rowAt rs i)) = bel (pls al (rs.take i)) (plc al (rowAt rs i)) := hp.countP_eq _
    have hble := bel_le hnd (plc al (rowAt rs i))
    have hv : plc al (rowAt rs i) ∉ L := fun h => hfree (hp.mem_iff.mp h)
    refine q_asg (v := .int (plc al (rowAt rs i) : Int)) (ev_is (ev_add (ev_mulR (by omega) (by omega) (ev_var rfl) (ev_lenS (by omega) (ev_var rfl))) (ev_sidx hA.nd hin (ev_var rfl) (ev_var rfl))) ?_) fun H3 e4 => ?_
    · unfold plc
      rw [Int.natCast_add, Int.natCast_mul]
    refine q_asg (ev_call (ea_cons (ev_var rfl) (ea_cons (ev_var rfl) ea_nil)) (sv_bel (v := plc al (rowAt rs i)) (sq_of (e4 _ _ h3)) hs (by omega))) fun H4 e5 => ?_
    have e45 := e4.trans e5
    have hbL := bel_len (T := L) (v := plc al (rowAt rs i))
    refine q_ins (e45 _ _ h3) (ev_var rfl) (ev_var rfl) (ev_var rfl) (by rw [List.length_map]; omega) (by omega) fun H5 e6 => ?_
    have e46 := e45.trans e6
    have hnn : (L2.upd H5 l (.lst ((L.map nat).take (bel L (plc al (rowAt rs i))) ++ [V.int (plc al (rowAt rs i) : Int)] ++ (L.map nat).drop (bel L (plc al (rowAt rs i)))))) n = some (.lst (((List.range i).map (pnum al rs)).map nat)) := by
      rw [upd_ne nln.symm]
      exact e46 _ _ h4
    refine s_app hnn (ev_var rfl) (ev_sub (ev_var rfl) (ev_var rfl)) (by rw [List.length_map, List.length_map, List.length_range]; omega) fun H6 e7 => ⟨⟨_, _, _, _, rfl⟩, (((e3.trans e46).mut hl).trans e7).mut hn0, ⟨L.take (bel L (plc al (rowAt rs i))) ++ [plc al (rowAt rs i)] ++ L.drop (bel L (plc al (rowAt rs i))), ?_, ins_sorted hs hv, ?_⟩, ?_⟩
    · rw [upd_ne nln]
      refine e7 _ _ ?_
      rw [List.map_append, List.map_append, List.map_take, List.map_drop]
      exact upd_same
    · rw [take_row hi]
      unfold pls at hp ⊢
      rw [List.map_append]
      exact ins_perm.trans (hp.append_right _)
    · have ep : ((plc al (rowAt rs i) : Int) - (bel L (plc al (rowAt rs i)) : Int)) = (pnum al rs i : Int) := by
        unfold pnum
        rw [hbl]
        omega
      rw [ep, List.range_succ, List.map_append, List.map_append]
      exact upd_same
  · intro σ' H' p
    obtain ⟨⟨u4, u5, u6, u7, rfl⟩, e3, _, h4⟩ := p
    exact s_ret (ev_var rfl) fun H3 e4 => q n H3 hn0 (e3.trans e4) (e4 _ _ h4)
end
end Ver
namespace Ver
/-! ### digits are determined by their value -/
theorem digs_inj : ∀ (a b : List Nat), a.length = b.length → Digs a → Digs b → valR a = valR b → a = b
  | [], [], _, _, _, _ => rfl
  | [], _ :: _, h, _, _, _ => by simp at h
  | _ :: _, [], h, _, _, _ => by simp at h
  | c :: a, d :: b, h, ha, hb, hv => by
    have hl : a.length = b.length := by simpa using h
    have e1 : valR (c :: a) = bit1 c * p2 a.length + valR a := rfl
    have e2 : valR (d :: b) = bit1 d * p2 b.length + valR b := rfl
    have b1 := valR_bound a
    have b2 := valR_bound b
    rw [e1, e2, ← hl] at hv
    rw [← hl] at b2
    have h1 := ha c (List.mem_cons_self ..)
    have h2 := hb d (List.mem_cons_self ..)
    have cd : c = d ∧ valR a = valR b := by
      rcases h1 with rfl | rfl <;> rcases h2 with rfl | rfl
      · have z : bit1 48 = 0 := rfl
        rw [z] at hv
        exact ⟨rfl, by omega⟩
      · have z : bit1 48 = 0 := rfl
        have o : bit1 49 = 1 := rfl
        rw [z, o] at hv
        omega
      · have z : bit1 48 = 0 := rfl
        have o : bit1 49 = 1 := rfl
        rw [z, o] at hv
        omega
      · exact ⟨rfl, by omega⟩
    rw [cd.1, digs_inj a b hl (fun x hx => ha x (List.mem_cons_of_mem _ hx)) (fun x hx => hb x (List.mem_cons_of_mem _ hx)) cd.2]
theorem nb_uniq {a b : List Nat} {n : Int} {w : Nat} (h1 : Nb a n w) (h2 : Nb b n w) : a = b := digs_inj a b (h1.len.trans h2.len.symm) h1.digs h2.digs (h1.v.trans h2.v.symm)
theorem nbL_zero : nbL 0 0 = [] := rfl
theorem nbL_step (n i : Nat) : (48 + n / 2 ^ i % 2) :: nbL (n % 2 ^ i) i = nbL (n % 2 ^ (i + 1)) (i + 1) := by
  have p : 0 < 2 ^ i := Nat.two_pow_pos i
  have h1 := nb_ok (n := n % 2 ^ i) (w := i) (Nat.mod_lt _ p)
  have h2 := nb_ok (n := n % 2 ^ (i + 1)) (w := i + 1) (Nat.mod_lt _ (Nat.two_pow_pos _))
  refine nb_uniq (n := ((n % 2 ^ (i + 1) : Nat) : Int)) (w := i + 1) ⟨by rw [List.length_cons, h1.len], fun c hc => ?_, ?_⟩ h2
  · rcases List.mem_cons.mp hc with rfl | hc
    · omega
    · exact h1.digs c hc
  · show bit1 (48 + n / 2 ^ i % 2) * p2 (nbL (n % 2 ^ i) i).length + valR (nbL (n % 2 ^ i) i) = _
    rw [h1.len, h1.v, p2_cast, Nat.mod_pow_succ]
    have hb : n / 2 ^ i % 2 = 0 ∨ n / 2 ^ i % 2 = 1 := by omega
    rcases hb with e | e
    · rw [e]
      show (0 : Int) * _ + _ = _
      rw [Nat.mul_zero, Nat.add_zero]
      omega
    · rw [e]
      show (1 : Int) * _ + _ = _
      rw [Nat.mul_one]
      omega
theorem nbl_all {n m : Nat} (h : n < m) : nbL (n % 2 ^ wid m) (wid m) = nbl n m := by
  have := wid_pow (n := m) (by omega)
  rw [Nat.mod_eq_of_lt (by omega)]
  rfl
theorem nodup_get {l : List Nat} (nd : l.Nodup) {i j : Nat} (hi : i < l.length) (hj : j < l.length) (e : l[i] = l[j]) : i = j := by
  have h := List.pairwise_iff_getElem.mp nd
  rcases Nat.lt_trichotomy i j with c | c | c
  · exact absurd e (h i j hi hj c)
  · exact c
  · exact absurd e.symm (h j i hj hi c)
/-! ### the free places, in order -/
structure Fre (al : List Nat) (L : Rw) (k : Nat) (F : Rw) : Prop where
  asc : F.Pairwise fun a b => plc al a < plc al b
  mem : ∀ r, r ∈ F ↔ (r.1 ≤ k ∧ r.2 ∈ al) ∧ r ∉ L
theorem perm_len {a b : List Nat} (h1 : a.Nodup) (h2 : b.Nodup) (h : ∀ x, x ∈ a ↔ x ∈ b) : a.length = b.length := ((List.perm_ext_iff_of_nodup h1 h2).mpr h).length_eq
theorem plc_ex {al : List Nat} {k x : Nat} (h : x < (k + 1) * al.length) : ∃ r : Nat × Nat, (r.1 ≤ k ∧ r.2 ∈ al) ∧ (al.Nodup → plc al r = x) := by
  have hp : 0 < al.length := by
    rcases Nat.eq_zero_or_pos al.length with e | e
    · rw [e, Nat.mul_zero] at h
      omega
    · exact e
  have h1 : x / al.length < k + 1 := Nat.div_lt_of_lt_mul (by rw [Nat.mul_comm]; exact h)
  have h2 : x % al.length < al.length := Nat.mod_lt _ hp
  refine ⟨(x / al.length, al[x % al.length]), ⟨by show x / al.length ≤ k; omega, List.getElem_mem h2⟩, fun nd => ?_⟩
  show x / al.length * al.length + al.idxOf al[x % al.length] = x
  have e : al.idxOf al[x % al.length] = x % al.length := by
    have hm := List.getElem_mem h2
    have := List.idxOf_lt_length_of_mem hm
    exact nodup_get nd this h2 (List.getElem_idxOf this)
  rw [e, Nat.mul_comm]
  exact Nat.div_add_mod x al.length
/-- how many free places are below a number -/
theorem fre_below {al : List Nat} (ha : al.Pairwise (· < ·)) {L F : Rw} {k v : Nat} (h : Fre al L k F) (ok : ∀ r ∈ L, r.1 ≤ k ∧ r.2 ∈ al) (nd : L.Nodup) (hv : v ≤ (k + 1) * al.length) :
    (F.filter fun r => decide (plc al r < v)).length + bel (pls al L) v = v := by
  have nal : al.Nodup := ha.imp fun h => Nat.ne_of_lt h
  have e1 : bel (pls al L) v = ((pls al L).filter fun x => decide (x < v)).length := by
    unfold bel
    rw [List.countP_eq_length_filter]
  have e2 : (F.filter fun r => decide (plc al r < v)).length = ((F.map (plc al)).filter fun x => decide (x < v)).length := by
    rw [List.filter_map, List.length_map]
    rfl
  rw [e1, e2, ← List.length_append]
  have ndF : (F.map (plc al)).Nodup := by
    unfold List.Nodup
    rw [List.pairwise_map]
    exact h.asc.imp fun h => Nat.ne_of_lt h
  have ndL : (pls al L).Nodup := by
    unfold pls List.Nodup
    rw [List.pairwise_map]
    refine List.Pairwise.imp_of_mem ?_ nd
    intro a b ma mb hab e
    exact hab (plc_inj ha (ok a ma).2 (ok b mb).2 e)
  have key := perm_len (a := (F.map (plc al)).filter (fun x => decide (x < v)) ++ (pls al L).filter fun x => decide (x < v)) (b := List.range v) ?_ List.nodup_range ?_
  · rw [key, List.length_range]
  · refine List.nodup_append.mpr ⟨ndF.filter _, ndL.filter _, fun a h1 b h2 e => ?_⟩
    subst e
    obtain ⟨r, hr, rfl⟩ := List.mem_map.mp (List.mem_filter.mp h1).1
    obtain ⟨q, hq, e⟩ := List.mem_map.mp (List.mem_filter.mp h2).1
    have hr2 := (h.mem r).mp hr
    have := plc_inj ha (ok q hq).2 hr2.1.2 e
    subst this
    exact hr2.2 hq
  · intro x
    rw [List.mem_append, List.mem_filter, List.mem_filter, List.mem_range]
    constructor
    · rintro (h1 | h1)
      · exact of_decide_eq_true h1.2
      · exact of_decide_eq_true h1.2
    · intro hx
      obtain ⟨r, hr, e⟩ := plc_ex (al := al) (k := k) (x := x) (by omega)
      have e := e nal
      by_cases c : r ∈ L
      · exact .inr ⟨List.mem_map.mpr ⟨r, c, e⟩, decide_eq_true hx⟩
      · exact .inl ⟨List.mem_map.mpr ⟨r, (h.mem r).mpr ⟨hr, c⟩, e⟩, decide_eq_true hx⟩
theorem fre_len {al : List Nat} (ha : al.Pairwise (· < ·)) {L F : Rw} {k : Nat} (h : Fre al L k F) (ok : ∀ r ∈ L, r.1 ≤ k ∧ r.2 ∈ al) (nd : L.Nodup) : F.length + L.length = (k + 1) * al.length := by
  have h1 := fre_below ha h ok nd (Nat.le_refl _)
  have e : (F.filter fun r => decide (plc al r < (k + 1) * al.length)) = F := List.filter_eq_self.mpr fun r hr => decide_eq_true (plc_lt (p := r.1) ((h.mem r).mp hr).1.2 ((h.mem r).mp hr).1.1)
  have e2 : bel (pls al L) ((k + 1) * al.length) = L.length := by
    rw [bel_all fun x hx => ?_]
    · unfold pls
      rw [List.length_map]
    · obtain ⟨r, hr, rfl⟩ := List.mem_map.mp hx
      exact plc_lt (p := r.1) (ok r hr).2 (ok r hr).1
  rw [e, e2] at h1
  exact h1
/-- the place of a free row among the free ones -/
theorem asc_idx {al : List Nat} : ∀ {F : Rw} {r : Nat × Nat}, F.Pairwise (fun a b => plc al a < plc al b) → r ∈ F → F.idxOf r = (F.filter fun q => decide (plc al q < plc al r)).length
  | [], r, _, h => by cases h
  | a :: F, r, hp, hr => by
    have hp1 := List.pairwise_cons.mp hp
    by_cases c : a = r
    · subst c
      rw [List.idxOf_cons_self]
      have e : ((a :: F).filter fun q => decide (plc al q < plc al a)) = [] := List.filter_eq_nil_iff.mpr fun q hq z => by
        have z := of_decide_eq_true z
        rcases List.mem_cons.mp hq with rfl | hq
        · omega
        · have := hp1.1 q hq
          omega
      rw [e]
      rfl
    · have hr2 : r ∈ F := (List.mem_cons.mp hr).resolve_left fun e => c e.symm
      have hlt := hp1.1 r hr2
      have cb : (a == r) = false := by simpa using c
      rw [List.idxOf_cons, List.filter_cons, if_pos (decide_eq_true hlt), cb, asc_idx hp1.2 hr2]
      rfl
  
theorem fre_idx {al : List Nat} (ha : al.Pairwise (· < ·)) {rs F : Rw} {k : Nat} (ok : RowsOk al rs) (hk : k < rs.length) (h : Fre al (rs.take k) k F) : rowAt rs k ∈ F ∧ F.idxOf (rowAt rs k) = pnum al rs k := by
  have hr := row_ok ok hk
  have hin : rowAt rs k ∈ F := (h.mem _).mpr ⟨hr, fun hm => free_row ha ok hk (List.mem_map.mpr ⟨_, hm, rfl⟩)⟩
  refine ⟨hin, ?_⟩
  have hb := fre_below ha h (v := plc al (rowAt rs k)) (fun r hr => by
    have := mem_row (ok.take k) hr
    rw [List.length_take] at this
    exact ⟨by omega, this.2⟩) (ok.take k).nd (Nat.le_of_lt (plc_lt (p := (rowAt rs k).1) hr.2 hr.1))
  rw [asc_idx h.asc hin]
  unfold pnum
  omega
theorem fre_zero {al : List Nat} (ha : al.Pairwise (· < ·)) : Fre al [] 0 (al.map fun c => (0, c)) := by
  refine ⟨?_, fun r => ?_⟩
  · rw [List.pairwise_map]
    refine List.Pairwise.imp_of_mem (fun {a b} ma mb hab => plc_mono ha ma mb (.inr ⟨rfl, hab⟩)) ha
  · rw [List.mem_map]
    constructor
    · rintro ⟨c, hc, rfl⟩
      exact ⟨⟨Nat.le_refl 0, hc⟩, fun h => by cases h⟩
    · rintro ⟨⟨h1, h2⟩, _⟩
      exact ⟨r.2, h2, by
        have : r.1 = 0 := by omega
        rw [← this]⟩
theorem nodup_of_asc {al : List Nat} {F : Rw} (h : F.Pairwise fun a b => plc al a < plc al b) : F.Nodup := h.imp fun {a b} hab e => by
  subst e
  exact absurd hab (Nat.lt_irrefl _)
theorem mem_erase_at {F : Rw} {j : Nat} (nd : F.Nodup) (hj : j < F.length) (r : Nat × Nat) : r ∈ F.take j ++ F.drop (j + 1) ↔ r ∈ F ∧ r ≠ F[j] := by
  have e : F = F.take j ++ F[j] :: F.drop (j + 1) := by
    rw [List.getElem_cons_drop, List.take_append_drop]
  have nd2 := nd
  rw [e] at nd2
  have h3 := (List.nodup_append.mp nd2)
  have h4 := List.nodup_cons.mp h3.2.1
  constructor
  · intro h
    rcases List.mem_append.mp h with h | h
    · exact ⟨List.mem_of_mem_take h, fun z => h3.2.2 r h F[j] (List.mem_cons_self ..) z⟩
    · exact ⟨List.mem_of_mem_drop h, fun z => h4.1 (z ▸ h)⟩
  · rintro ⟨h1, h2⟩
    rw [e] at h1
    rcases List.mem_append.mp h1 with h | h
    · exact List.mem_append_left _ h
    · exact List.mem_append_right _ ((List.mem_cons.mp h).resolve_left h2)
theorem fre_step {al : List Nat} (ha : al.Pairwise (· < ·)) {rs F : Rw} {k : Nat} (ok : RowsOk al rs) (hk : k < rs.length) (h : Fre al (rs.take k) k F) :
    Fre al (rs.take (k + 1)) (k + 1) (F.take (F.idxOf (rowAt rs k)) ++ F.drop (F.idxOf (rowAt rs k) + 1) ++ al.map fun c => (k + 1, c)) := by
  obtain ⟨hin, _⟩ := fre_idx ha ok hk h
  have hj := List.idxOf_lt_length_of_mem hin
  have hg : F[F.idxOf (rowAt rs k)] = rowAt rs k := List.getElem_idxOf hj
  have nd := nodup_of_asc h.asc
  have ht : rs.take (k + 1) = rs.take k ++ [rowAt rs k] := by
    rw [List.take_add_one, rowAt_get hk]
    rfl
  have hz := fre_zero ha
  refine ⟨List.pairwise_append.mpr ⟨?_, ?_, fun a ma b mb => ?_⟩, fun r => ?_⟩
  · have e : F.take (F.idxOf (rowAt rs k)) ++ F.drop (F.idxOf (rowAt rs k) + 1) = F.eraseIdx (F.idxOf (rowAt rs k)) := by rw [List.eraseIdx_eq_take_drop_succ]
    rw [e]
    exact h.asc.sublist (List.eraseIdx_sublist ..)
  · rw [List.pairwise_map]
    exact List.Pairwise.imp_of_mem (fun {a b} ma mb hab => plc_mono ha ma mb (.inr ⟨rfl, hab⟩)) ha
  · obtain ⟨c, hc, rfl⟩ := List.mem_map.mp mb
    have ma2 := (h.mem a).mp (((mem_erase_at nd hj a).mp ma).1)
    exact plc_mono ha ma2.1.2 hc (.inl (by show a.1 < k + 1; omega))
  · rw [List.mem_append, mem_erase_at nd hj, hg, h.mem, ht, List.mem_append, List.mem_singleton]
    have hr := row_ok ok hk
    constructor
    · rintro (⟨⟨⟨h1, h2⟩, h3⟩, h4⟩ | h1)
      · exact ⟨⟨by omega, h2⟩, fun z => z.elim h3 h4⟩
      · obtain ⟨c, hc, rfl⟩ := List.mem_map.mp h1
        refine ⟨⟨Nat.le_refl _, hc⟩, fun z => ?_⟩
        rcases z with z | z
        · have := (mem_row (ok.take k) z).1
          rw [List.length_take] at this
          have : (k + 1 : Nat) + 1 ≤ _ := this
          omega
        · have : (k + 1 : Nat) = (rowAt rs k).1 := congrArg Prod.fst z
          omega
    · rintro ⟨⟨h1, h2⟩, h3⟩
      by_cases c : r.1 ≤ k
      · exact .inl ⟨⟨⟨c, h2⟩, fun z => h3 (.inl z)⟩, fun z => h3 (.inr z)⟩
      · exact .inr (List.mem_map.mpr ⟨r.2, h2, by
          have : r.1 = k + 1 := by omega
          rw [← this]⟩)
/-! ### the places counted by parents -/
def ncnt (L : Rw) (p : Nat) : Nat := L.countP fun r => decide (r.1 = p)
def nsis (L : Rw) (p : Nat) : List Nat := (L.filter fun r => decide (r.1 = p)).map (·.2)
theorem ncnt_sum (L : Rw) : ∀ p, ((List.range p).map (ncnt L)).sum = L.countP fun r => decide (r.1 < p)
  | 0 => by
    rw [List.countP_eq_zero.mpr fun r _ => by simp]
    rfl
  | p + 1 => by
    rw [List.range_succ, List.map_append, List.sum_append, ncnt_sum L p]
    show _ + (ncnt L p + 0) = _
    unfold ncnt
    induction L with
    | nil => rfl
    | cons a L ih =>
      rw [List.countP_cons, List.countP_cons, List.countP_cons]
      simp only [decide_eq_true_eq]
      split <;> split <;> split <;> omega
theorem nsis_less (L : Rw) (p c : Nat) : ((nsis L p).filter fun d => decide (d < c)).length = L.countP fun r => decide (r.1 = p ∧ r.2 < c) := by
  unfold nsis
  rw [List.filter_map, List.length_map, List.filter_filter, ← List.countP_eq_length_filter]
  refine List.countP_congr fun r _ => ?_
  show (decide (r.2 < c) && decide (r.1 = p)) = true ↔ _
  rw [Bool.and_eq_true, decide_eq_true_eq, decide_eq_true_eq, decide_eq_true_eq]
  exact And.comm
theorem bel_parts {al : List Nat} (ha : al.Pairwise (· < ·)) {L : Rw} {p c : Nat} (ok : ∀ r ∈ L, r.2 ∈ al) (hc : c ∈ al) : bel (pls al L) (plc al (p, c)) = (L.countP fun r => decide (r.1 < p)) + L.countP fun r => decide (r.1 = p ∧ r.2 < c) := by
  induction L with
  | nil => rfl
  | cons a L ih =>
    have ih := ih fun r hr => ok r (List.mem_cons_of_mem _ hr)
    have e : bel (pls al (a :: L)) (plc al (p, c)) = bel (pls al L) (plc al (p, c)) + if plc al a < plc al (p, c) then 1 else 0 := by
      show bel (plc al a :: pls al L) _ = _
      unfold bel
      rw [List.countP_cons]
      simp
    rw [e, ih, List.countP_cons, List.countP_cons]
    have hal := ok a (List.mem_cons_self ..)
    by_cases h1 : a.1 < p
    · rw [if_pos (plc_mono ha hal hc (.inl h1)), if_pos (decide_eq_true h1), if_neg (by simp; omega)]
      omega
    · by_cases h2 : a.1 = p ∧ a.2 < c
      · rw [if_pos (plc_mono ha hal hc (.inr h2)), if_neg (by simp; omega), if_pos (decide_eq_true h2)]
        omega
      · have hn : ¬ plc al a < plc al (p, c) := fun z => by
          by_cases e : a = (p, c)
          · rw [e] at z
            omega
          · have := (rlt_tri e).resolve_left fun q => by
              rcases q with q | q
              · exact h1 q
              · exact h2 q
            have := plc_mono ha hc hal this
            omega
        rw [if_neg hn, if_neg (by simp; omega), if_neg (by simp; omega)]
        omega
theorem ncnt_snoc (L : Rw) (r : Nat × Nat) (p : Nat) : ncnt (L ++ [r]) p = ncnt L p + if r.1 = p then 1 else 0 := by
  unfold ncnt
  rw [List.countP_append, List.countP_singleton]
  simp
theorem nsis_snoc (L : Rw) (r : Nat × Nat) (p : Nat) : nsis (L ++ [r]) p = nsis L p ++ if r.1 = p then [r.2] else [] := by
  unfold nsis
  rw [List.filter_append, List.map_append]
  by_cases c : r.1 = p
  · rw [if_pos c, List.filter_cons, if_pos (decide_eq_true c)]
    rfl
  · rw [if_neg c, List.filter_cons, if_neg (by simp [c])]
    rfl
theorem place_many {al : List Nat} (ha : al.Pairwise (· < ·)) {rs : Rw} {k : Nat} (ok : RowsOk al rs) (hk : k < rs.length) :
    pnum al rs k + (((List.range (rowAt rs k).1).map (ncnt (rs.take k))).sum + ((nsis (rs.take k) (rowAt rs k).1).filter fun d => decide (d < (rowAt rs k).2)).length) = (rowAt rs k).1 * al.length + al.idxOf (rowAt rs k).2 := by
  have hr := row_ok ok hk
  rw [ncnt_sum, nsis_less, ← bel_parts ha (fun r hr => (mem_row (ok.take k) hr).2) hr.2]
  have := bel_le (pls_nd ha (ok.take k)) (plc al (rowAt rs k))
  show pnum al rs k + bel _ (plc al (rowAt rs k)) = plc al (rowAt rs k)
  unfold pnum
  omega
end Ver
namespace Ver
open PySem PySem.Spec PyProof.Rows L2 Evl
open PySem.Builtin PySem.Builtin.Str
/-! ### strip, exactly enough -/
def inL (m : List Nat) (c : Nat) : Bool := decide (c ∈ m)
theorem goes_is (m : List Nat) : (SX.S m).cps.contains = inL m := by
  funext c
  unfold inL
  show (m.toArray).contains c = _
  simp
theorem drop_take {p : Nat → Bool} (l : List Nat) : l.drop (l.takeWhile p).length = l.dropWhile p := by
  induction l with
  | nil => rfl
  | cons a r ih =>
    rw [List.takeWhile_cons, List.dropWhile_cons]
    cases p a
    · rfl
    · exact ih
theorem tw_all {p : Nat → Bool} : ∀ (l : List Nat) (c : Nat), c ∈ l.takeWhile p → p c = true
  | [], c, h => by cases h
  | a :: r, c, h => by
    rw [List.takeWhile_cons] at h
    cases q : p a with
    | false =>
      rw [q] at h
      cases h
    | true =>
      rw [q] at h
      rcases List.mem_cons.mp h with rfl | h
      · exact q
      · exact tw_all r c h
theorem dw_head {p : Nat → Bool} : ∀ (l : List Nat) (a : Nat) (r : List Nat), l.dropWhile p = a :: r → p a = false
  | [], a, r, h => by cases h
  | b :: l, a, r, h => by
    rw [List.dropWhile_cons] at h
    cases q : p b with
    | false =>
      rw [q] at h
      cases h
      exact q
    | true =>
      rw [q] at h
      exact dw_head l a r h
theorem strSub_S (l : List Nat) (a b : Nat) : strSub (SX.S l) a b = SX.S ((l.take b).drop a) := by
  unfold strSub
  rw [← SX.S_tl ((⟨(SX.S l).cps.extract a b⟩ : Str))]
  congr 1
  show (l.toArray.extract a b).toList = _
  simp [List.extract_eq_drop_take, List.drop_take]
theorem lstrip_is (l m : List Nat) : Txt.lstripChars (SX.S l) (SX.S m) = SX.S (l.dropWhile (inL m)) := by
  unfold Txt.lstripChars
  rw [goes_is]
  unfold Txt.stripBy stripSame stripped
  have hlo : stripLo (inL m) true (SX.S l) = (l.takeWhile (inL m)).length := by
    unfold stripLo
    rw [if_pos rfl]
  have hhi : ∀ k, stripHi (inL m) false (SX.S l) k = l.length := fun k => by
    unfold stripHi
    rw [if_neg (by decide), SX.S_len]
  rw [hlo, hhi, SX.S_len, strSub_S, List.take_length, drop_take]
  by_cases c : (l.takeWhile (inL m)).length = 0
  · rw [if_pos (by rw [c]; simp)]
    have e := List.takeWhile_append_dropWhile (p := inL m) (l := l)
    rw [List.length_eq_zero_iff.mp c, List.nil_append] at e
    rw [e]
  · rw [if_neg (by simp; intro h; exact absurd (List.length_eq_zero_iff.mpr h) (by simpa using c))]
theorem strip_some {l m : List Nat} (h : ∃ c ∈ l, c ∉ m) : Txt.stripChars (SX.S l) (SX.S m) ≠ SX.S [] := by
  obtain ⟨c, hc, hm⟩ := h
  unfold Txt.stripChars
  rw [goes_is]
  unfold Txt.stripBy stripSame stripped
  have hlo : stripLo (inL m) true (SX.S l) = (l.takeWhile (inL m)).length := by
    unfold stripLo
    rw [if_pos rfl]
  rw [hlo]
  have e := List.takeWhile_append_dropWhile (p := inL m) (l := l)
  have hd : ∃ a r, l.dropWhile (inL m) = a :: r ∧ inL m a = false := by
    cases hq : l.dropWhile (inL m) with
    | nil =>
      rw [hq, List.append_nil] at e
      have : c ∈ l.takeWhile (inL m) := by rw [e]; exact hc
      exact absurd (of_decide_eq_true (tw_all l c this)) hm
    | cons a r =>
      refine ⟨a, r, rfl, ?_⟩
      exact dw_head l a r hq
  obtain ⟨a, r, hq, ha⟩ := hd
  have hlen : (l.takeWhile (inL m)).length + (r.length + 1) = l.length := by
    have := congrArg List.length e
    rw [List.length_append, hq, List.length_cons] at this
    omega
  have hhi : stripHi (inL m) true (SX.S l) (l.takeWhile (inL m)).length = l.length - ((a :: r).reverse.takeWhile (inL m)).length := by
    unfold stripHi
    rw [if_pos rfl, SX.S_len]
    show l.length - ((l.drop _).reverse.takeWhile _).length = _
    rw [drop_take, hq]
  have hlt : ((a :: r).reverse.takeWhile (inL m)).length ≤ r.length := by
    rw [List.reverse_cons, List.takeWhile_append]
    split
    · rw [List.takeWhile_cons, if_neg (by rw [ha]; decide), List.append_nil, List.length_reverse]
      exact Nat.le_refl _
    · have := (List.takeWhile_sublist (p := inL m) (l := r.reverse)).length_le
      rw [List.length_reverse] at this
      exact this
  rw [hhi]
  split
  · intro z
    have z2 := SX.S_inj z
    rw [z2] at hc
    cases hc
  · rw [strSub_S]
    intro z
    have z2 := congrArg List.length (SX.S_inj z)
    rw [List.length_drop, List.length_take, List.length_nil] at z2
    omega
theorem asc_of : ∀ l : List Nat, (∀ i, i + 1 < l.length → l.getD i 0 < l.getD (i + 1) 0) → l.Pairwise (· < ·)
  | [], _ => .nil
  | [a], _ => by simp
  | a :: b :: r, h => by
    have ih := asc_of (b :: r) fun i hi => h (i + 1) (by simpa using hi)
    have h0 : a < b := h 0 (by simp)
    refine .cons (fun c hc => ?_) ih
    rcases List.mem_cons.mp hc with rfl | hc
    · exact h0
    · exact Nat.lt_trans h0 ((List.pairwise_cons.mp ih).1 c hc)
/-- the first letter that is none of al stands at k -/
def bad1 (al v : List Nat) (k : Nat) : Prop := k = (v.takeWhile (inL al)).length ∧ k < v.length
theorem bad1_rest {al v : List Nat} {k : Nat} (h : bad1 al v k) : (v.dropWhile (inL al)).length = v.length - k ∧ v.dropWhile (inL al) ≠ [] := by
  obtain ⟨rfl, hk⟩ := h
  have e := List.takeWhile_append_dropWhile (p := inL al) (l := v)
  have := congrArg List.length e
  rw [List.length_append] at this
  refine ⟨by omega, fun z => ?_⟩
  rw [z] at this
  simp at this
  omega
theorem bad1_mk {al a b : List Nat} {c : Nat} (ha : ∀ x ∈ a, x ∈ al) (hc : c ∉ al) : bad1 al (a ++ c :: b) a.length := by
  have : (a ++ c :: b).takeWhile (inL al) = a := by
    rw [List.takeWhile_append_of_pos (p := inL al) fun x hx => decide_eq_true (ha x hx), List.takeWhile_cons, if_neg (by unfold inL; simpa using hc), List.append_nil]
  exact ⟨by rw [this], by simp⟩
end Ver
namespace Ver
/-! ### strings that are no alphabets; a sign that an alphabet has not -/
theorem getD_injN {l : List Nat} (nd : l.Nodup) {i j : Nat} (hi : i < l.length) (hj : j < l.length) (h : l.getD i 0 = l.getD j 0) : i = j := by
  rw [List.getD_eq_getElem?_getD, List.getD_eq_getElem?_getD, List.getElem?_eq_getElem hi, List.getElem?_eq_getElem hj] at h
  exact (List.getElem_inj nd).mp h
/-- seven different signs are not all among six -/
theorem seven {l al : List Nat} {f : Nat → Nat} (nd : l.Nodup) (hf : ∀ s, s < 7 → f s < l.length) (inj : ∀ s u, s < 7 → u < 7 → f s = f u → s = u) (h6 : al.length ≤ 6) (h : ∀ s, s < 7 → l.getD (f s) 0 ∈ al) : False := by
  have e := nodup_sub ((List.range 7).map fun s => l.getD (f s) 0) al (by
    rw [List.nodup_iff_pairwise_ne, List.pairwise_map]
    refine List.Pairwise.imp_of_mem (R := (· < ·)) (fun {a b} ha hb hab z => ?_) List.pairwise_lt_range
    have ha := List.mem_range.mp ha
    have hb := List.mem_range.mp hb
    have := inj a b ha hb (getD_injN nd (hf a ha) (hf b hb) z)
    omega) (fun x hx => by
    obtain ⟨s, hs, rfl⟩ := List.mem_map.mp hx
    exact h s (List.mem_range.mp hs))
  rw [List.length_map, List.length_range] at e
  omega
theorem bad_nil : ¬ Alf [] := fun h => absurd h.pos (by decide)
theorem bad_sign {l : List Nat} {c : Nat} (hc : c ∈ l) (hb : ¬ ((48 ≤ c ∧ c ≤ 57) ∨ (97 ≤ c ∧ c ≤ 122))) : ¬ Alf l := fun h => hb (h.let' c hc)
theorem bad_pair {a b : List Nat} {x y : Nat} (hx : x ∈ a) (hy : y ∈ b) (hxy : y ≤ x) : ¬ Alf (a ++ b) := fun h => by
  have := (List.pairwise_append.mp h.asc).2.2 x hx y hy
  omega
theorem bad_long {l : List Nat} (h : 6 < l.length) : ¬ Alf l := fun g => absurd g.six (by omega)
def sgs : List Nat := [48, 49, 50, 51, 52, 53, 54, 55, 56, 57, 97, 98, 99, 100, 101, 102, 103, 104, 105, 106, 107, 108, 109, 110, 111, 112, 113, 114, 115, 116, 117, 118, 119, 120, 121, 122, 32, 65, 90, 126, 45, 95, 10]
theorem sgs_is : PySem.Str.ofString "0123456789abcdefghijklmnopqrstuvwxyz AZ~-_\n" = SX.S sgs := by decide +kernel
theorem sgs_nd : sgs.Nodup := by decide +kernel
theorem sgs_len : sgs.length = 43 := rfl
theorem sgs_at {i : Nat} (h : i < 43) : sgs[i]? = some (sgs.getD i 0) := by
  rw [List.getD_eq_getElem?_getD, List.getElem?_eq_getElem (by rw [sgs_len]; exact h)]
  rfl
end Ver
namespace Ver
open PySem PySem.Spec PyProof.Rows L2 Evl
section
variable {P : Program} {w : World} {K : PySem.W.Frag} {mg : Str → Option Value} {base : Heap} {C_Cut : Addr} {C_Round : Addr}
/-! ### the first strange sign -/
theorem tw_len {al : List Nat} : ∀ {v : List Nat} {i : Nat}, i < v.length → (∀ j, j < i → v.getD j 0 ∈ al) → v.getD i 0 ∉ al → (v.takeWhile (inL al)).length = i
  | [], i, h, _, _ => by simp at h
  | c :: v, 0, _, _, hn => by
    have hc : inL al c = false := decide_eq_false hn
    rw [List.takeWhile_cons, hc]
    rfl
  | c :: v, i + 1, h, hin, hn => by
    have hc : inL al c = true := decide_eq_true (hin 0 (Nat.succ_pos i))
    rw [List.takeWhile_cons, hc]
    show (v.takeWhile (inL al)).length + 1 = i + 1
    rw [tw_len (v := v) (i := i) (by simpa using h) (fun j hj => hin (j + 1) (by omega)) hn]
theorem bad1_uniq {al v : List Nat} {k i : Nat} (h : bad1 al v k) (hi : i < v.length) (hin : ∀ j, j < i → v.getD j 0 ∈ al) (hn : v.getD i 0 ∉ al) : k = i := h.1.trans (tw_len hi hin hn)
theorem tw_full {al : List Nat} : ∀ {v : List Nat}, (∀ c ∈ v, inL al c = true) → v.takeWhile (inL al) = v
  | [], _ => rfl
  | c :: v, h => by
    rw [List.takeWhile_cons, h c (List.mem_cons_self ..)]
    show c :: v.takeWhile (inL al) = c :: v
    rw [tw_full fun d hd => h d (List.mem_cons_of_mem _ hd)]
theorem bad1_none {al v : List Nat} {k : Nat} (hin : ∀ j, j < v.length → v.getD j 0 ∈ al) : ¬ bad1 al v k := fun h => by
  have e : v.takeWhile (inL al) = v := tw_full fun c hc => by
    obtain ⟨j, hj, rfl⟩ := List.mem_iff_getElem.mp hc
    have := hin j hj
    rw [List.getD_eq_getElem?_getD, List.getElem?_eq_getElem hj] at this
    exact decide_eq_true this
  have h1 := h.1
  have h2 := h.2
  rw [e] at h1
  omega
/-! ### _law_number -/
def spLn : Sp := fun vs H Q _ => ∃ n m : Nat, vs = [.int (n : Int), .int (m : Int)] ∧ n < m ∧ m ≤ 131072 ∧ RetV (tx (nbl n m)) H Q
theorem has_ln (F : At K mg "_law_number" s__law_number) (T : Top K mg C_Cut C_Round) (h1 : Has P w K mg base "_law_width" s__law_width ["many"] 1 spLw4) : Has P w K mg base "_law_number" s__law_number ["value", "many"] 2 spLn := by
  obtain ⟨f, fd, F, m⟩ := F.ex
  obtain ⟨f1, fd1, _, G__law_width, b__law_width, m__law_width, k__law_width⟩ := h1
  refine ⟨f, fd, F, F.ok S__law_number (fun vs H Q E h => ?_) (fun cdv A outer s H vs Q E hr h => ?_), F.binds fun _ _ _ _ _ _ us hl => match us, hl with | [_, _], _ => rfl, m, F.kp⟩
  · obtain ⟨n, m, rfl, _⟩ := h
    rfl
  obtain ⟨n, m, rfl, hn, hm, q⟩ := h
  refine ⟨_, (pss_cons
    (ps_set (i := 2) S__law_number.nd rfl (Or.inl rfl) pe_str)
    (pss_cons
    (ps_set (i := 3) S__law_number.nd rfl (Or.inl rfl) (pv 0))
    (pss_cons
    (ps_for PassesOwn.never rfl (pi_range1 rfl T.z_range (pa_cons (pe_call G__law_width (hr.mono (by decide)) rfl m__law_width k__law_width b__law_width .nil pass0 (pa_cons (pv 1) pa_nil)) pa_nil)) (pg_name (i := 4) S__law_number.nd rfl (Or.inl rfl)) (pss_cons
    (ps_set (i := 2) S__law_number.nd rfl (Or.inl rfl) (pe_op op_add_str (pe_callTy call_str_int rfl T.z_str (by decide +kernel) (pa_cons (pe_op op_mod (pe_callTy call_int1 rfl T.z_int (by decide +kernel) (pa_cons (pv 3) pa_nil)) pe_int) pa_nil)) (pv 2)))
    (pss_one
    (ps_set (i := 3) S__law_number.nd rfl (Or.inl rfl) (pe_op op_fdivW (pe_callTy call_int1 rfl T.z_int (by decide +kernel) (pa_cons (pv 3) pa_nil)) pe_int)))))
    (pss_one
    (ps_ret (pv 2)))))), ?_⟩
  have hw := wid_13 (n := m) (by omega) hm
  refine q_asg (v := tx []) (ev_is ev_c (by rw [mt_is])) fun H1 e1 => ?_
  refine q_asg (ev_var rfl) fun H2 e2 => ?_
  refine q_forR1 (n := ((wid m : Nat) : Int)) (ea_cons (ev_call (ea_cons (ev_var rfl) ea_nil) (sv_lw4b (n := m) (by omega) (by omega))) ea_nil) (by omega) (fun i σ' H' => (∃ u, σ' = [some (.int (n : Int)), some (.int (m : Int)), some (tx (nbL (n % 2 ^ i) i)), some (.int ((n / 2 ^ i : Nat) : Int)), u]) ∧ Ex H H') ?_ ?_ ?_
  · intro H3 e3
    refine ⟨⟨none, ?_⟩, (e1.trans e2).trans e3⟩
    show _ = [some (V.int (n : Int)), some (V.int (m : Int)), some (tx (nbL (n % 1) 0)), some (V.int ((n / 1 : Nat) : Int)), none]
    rw [Nat.mod_one, Nat.div_one, nbL_zero]
    rfl
  · intro i σ' H' hi z
    obtain ⟨⟨u, rfl⟩, e3⟩ := z
    have hl := (nb_ok (n := n % 2 ^ i) (w := i) (Nat.mod_lt _ (Nat.two_pow_pos i))).len
    refine q_asg (v := tx (nbL (n % 2 ^ (i + 1)) (i + 1))) (ev_is (ev_catS (a := [48 + n / 2 ^ i % 2]) (b := nbL (n % 2 ^ i) i) (by rw [hl]; show 1 + i ≤ 100000; omega) (ev_strBit (b := n / 2 ^ i % 2) (Nat.mod_lt _ (by decide)) (ev_is (ev_mod (i := ((n / 2 ^ i : Nat) : Int)) (j := 2) (by decide) (ev_int (ev_var rfl)) ev_c) (by congr 1))) (ev_var rfl)) (by rw [← nbL_step]; rfl)) fun H4 e4 => ?_
    refine s_asg (v := .int ((n / 2 ^ (i + 1) : Nat) : Int)) (ev_is (ev_div (i := ((n / 2 ^ i : Nat) : Int)) (j := 2) (by decide) (by decide) (ev_int (ev_var rfl)) ev_c) (by
      rw [Nat.pow_succ, ← Nat.div_div_eq_div_mul]
      congr 1)) fun H5 e5 => ⟨⟨_, rfl⟩, (e3.trans e4).trans e5⟩
  · intro σ' H' z
    obtain ⟨⟨u, rfl⟩, e3⟩ := z
    rw [Int.toNat_natCast]
    refine s_ret (v := tx (nbl n m)) (ev_is (ev_var rfl) (by rw [nbl_all hn])) fun H4 e4 => q H4 (e3.trans e4)
theorem sv_ln {n m : Nat} {H : Hp} (h1 : n < m) (h2 : m ≤ 131072) : SpV spLn ([V.int (n : Int), V.int (m : Int)] ++ []) H (tx (nbl n m)) := fun _ _ _ q _ => ⟨n, m, rfl, h1, h2, q⟩
/-! ### signs that are not in an alphabet -/
theorem out_pos {al l : List Nat} {c : Nat} (hc : c ∈ l) (h : c ∉ al) : 0 < (l.filter fun c => !decide (c ∈ al)).length := List.length_pos_of_mem (List.mem_filter.mpr ⟨hc, by rw [decide_eq_false h]; rfl⟩)
theorem figs_out {al : List Nat} (hA : Alf al) : ∃ c, c ∈ figs ∧ c ∉ al := Classical.byContradiction fun hn => by
  have h := nodup_sub figs al figs_nd fun x hx => Classical.byContradiction fun z => hn ⟨x, hx, z⟩
  have h6 := hA.six
  have e : figs.length = 36 := rfl
  omega
theorem filt_at {al l : List Nat} {k : Nat} (hk : k < (l.filter fun c => !decide (c ∈ al)).length) : ∃ c, c ∈ l ∧ c ∉ al ∧ ((l.filter fun c => !decide (c ∈ al)).map fun c => tx [c])[k]? = some (tx [c]) := by
  refine ⟨(l.filter fun c => !decide (c ∈ al))[k], ?_, ?_, by rw [List.getElem?_map, List.getElem?_eq_getElem hk]; rfl⟩
  · exact (List.mem_filter.mp (List.getElem_mem hk)).1
  · have := (List.mem_filter.mp (List.getElem_mem hk)).2
    rw [Bool.not_eq_true'] at this
    exact of_decide_eq_false this
/-- a list of the signs of a text that are not in the alphabet -/
theorem el_out {σ : L2.St} {H : Hp} {tl : TE} {j i : Nat} {vs : List Nat} {al x : List Nat} (h : Ev tl σ H (tx x)) (hz : x.length ≤ 1000) (hw : ∀ a, wipe ((wipe σ vs).set j (some a)) vs = wipe σ vs)
    (h1 : ∀ a : V, ((wipe σ vs).set j (some a))[i]? = some (some (tx al))) (h2 : ∀ a : V, ((wipe σ vs).set j (some a))[j]? = some (some a)) :
    EvL (tLc (iStr tl) (gName j) (tTest (tOp (fun x y H Q => ∃ (c : Nat) (z : Str), x = .str ⟨#[c]⟩ ∧ y = .str z ∧ Q (.bl (!decide (c ∈ z.cps.toList))) H) (tVar j) (tVar i))) (tVar j) vs) σ H ((x.filter fun c => !decide (c ∈ al)).map fun c => tx [c]) :=
  el_lcSF (fun c => !decide (c ∈ al)) (fun c => tx [c]) h (by omega) hw (fun i c H1 e hc => et_test (ev_op (ev_var (h2 _)) (ev_var (h1 _)) rv_niSign)) fun i c H1 e hc => ev_var (h2 _)
/-! ### _law_wider -/
def spWi : Sp := fun vs H Q _ => ∃ (al : List Nat) (z : Int), vs = [tx al, .int z] ∧ Alf al ∧ ∀ al2, Alf al2 → RetV (tx al2) H Q
theorem has_wi (F : At K mg "_law_wider" s__law_wider) (T : Top K mg C_Cut C_Round) : Has P w K mg base "_law_wider" s__law_wider ["signs", "digit"] 1 spWi := by
  obtain ⟨f, fd, F, m⟩ := F.ex
  refine ⟨f, fd, F, F.ok S__law_wider (fun vs H Q E h => ?_) (fun cdv A outer s H vs Q E hr h => ?_), F.binds fun _ _ _ _ _ _ us hl => match us, hl with | [_, _], _ => rfl, m, F.kp⟩
  · obtain ⟨al, z, rfl, _⟩ := h
    rfl
  obtain ⟨al, z, rfl, hA, q⟩ := h
  refine ⟨_, (pss_cons
    (ps_if (pt_cmpR op_eq (pe_callB call_len_str rfl T.z_len PySem.boot_len (pa_cons (pv 0) pa_nil)) pe_int (nomark _)) (pss_one
    (ps_ret (pv 0))) pss_nil)
    (pss_cons
    (ps_setLc (i := 2) (own := [("letter", 3)]) (g := gName 3) (tt := _) rfl S__law_wider.nd rfl (rfl) (sw_true rfl rfl rfl (by decide +kernel)) (pi_str pe_str) (blkOk_by (N := N__law_wider) (sc := defScope s__law_wider) (by decide +kernel)) (fun _ _ _ _ _ => pg_name (i := 3) S__law_wider.nd rfl (Or.inl rfl)) (fun _ _ _ _ _ => pts_one (pt_cmpR op_notIn_sign (pv 3) (pv 0) rfl)) (fun _ _ _ _ _ => (pv 3)))
    (pss_one
    (ps_ret (pe_join pe_str (pe_callB (call_sortedSg rfl) rfl T.z_sorted (by decide +kernel) (pa_cons (pe_op op_add_str (pv 0) (pe_ix (r := rIxL K) ix_list (pv 2) (pe_op op_mod (pe_callTy call_int1 rfl T.z_int (by decide +kernel) (pa_cons (pv 1) pa_nil)) (pe_callB call_len_seq rfl T.z_len PySem.boot_len (pa_cons (pv 2) pa_nil))) (fun _ _ => rfl))) pa_nil))))))), ?_⟩
  have h6 := hA.six
  have hp := hA.pos
  refine q_when (et_eqI (ev_lenS (by omega) (ev_var rfl)) ev_c) (fun hb H1 e1 => ?_) (fun hb H1 e1 => ?_)
  · exact s_ret (ev_var rfl) fun H2 e2 => q al hA H2 (e1.trans e2)
  have h5 : al.length < 6 := by
    have := of_decide_eq_false hb
    omega
  refine q_asgL (el_out (x := figs) (al := al) (i := 0) (ev_is ev_c (by rw [figs_is])) (by decide) (fun a => rfl) (fun a => rfl) (fun a => rfl)) fun l H2 hl e2 g2 => ?_
  obtain ⟨c0, hc0, hc1⟩ := figs_out hA
  have hpos := out_pos hc0 hc1
  obtain ⟨k, hk, ek⟩ := int_mod (x := z) hpos
  obtain ⟨c, hc, hout, hat⟩ := filt_at hk
  have nd : (al ++ [c]).Nodup := List.nodup_append.mpr ⟨hA.nd, List.pairwise_singleton _ _, fun a ha b hb e => hout (by rw [List.mem_singleton.mp hb] at e; exact e ▸ ha)⟩
  refine s_retJoinX ((ea_cons (ev_catS (b := [c]) (by show al.length + 1 ≤ _; omega) (ev_var rfl) (ev_op (ev_var rfl) (ev_is (ev_mod (j := ((figs.filter fun c => !decide (c ∈ al)).length : Int)) (by omega) (ev_int (ev_var rfl)) (ev_is (ev_cb (ea_cons (ev_var rfl) ea_nil) (rc_lenL (sq_of g2))) (by rw [List.length_map]))) (by rw [ek])) (rv_ixL (sq_of g2) (atI_nat hat)))) ea_nil) H2 (Ex.refl H2) _ fun H3 e3 => ⟨al ++ [c], rfl, by rw [List.length_append]; show al.length + 1 < 64; omega, fun ys p hpm hs hpn => ?_⟩)
  rw [mt_is]
  obtain ⟨ds, rfl, hdp, hda⟩ := sorted_signs nd hpm hs
  have hdl := hdp.length_eq
  rw [List.length_append] at hdl
  have hdl : ds.length = al.length + 1 := hdl
  have hD : Alf ds := ⟨hda, by omega, by omega, fun d hd => by
    rcases List.mem_append.mp (hdp.mem_iff.mp hd) with h | h
    · exact hA.let' d h
    · rw [List.mem_singleton.mp h]
      exact figs_let c hc⟩
  have ej : (ds.map fun c => SX.S [c]) = (ds.map fun c => [c]).map SX.S := by
    rw [List.map_map]
    rfl
  refine join_ok (ps := ds.map fun c => [c]) (K := K) (.inl (sq_of (by rw [map_tx, ← ej]; exact upd_same))) (by rw [flat_sing]; omega) ?_
  rw [flat_sing]
  exact q ds hD _ (((e1.trans e2).trans e3).trans (Ex.new hpn))
/-! ### _law_first_strange -/
def spFs : Sp := fun vs H Q _ => ∃ (al v : List Nat) (r : Int), vs = [tx al, tx v] ∧ v.length ≤ 90000 ∧ ((r = -1 ∧ ∀ c ∈ v, c ∈ al) ∨ ∃ k : Nat, r = (k : Int) ∧ bad1 al v k) ∧ RetV (.int r) H Q
theorem has_fs (F : At K mg "_law_first_strange" s__law_first_strange) (T : Top K mg C_Cut C_Round) : Has P w K mg base "_law_first_strange" s__law_first_strange ["signs", "word"] 1 spFs := by
  obtain ⟨f, fd, F, m⟩ := F.ex
  refine ⟨f, fd, F, F.ok S__law_first_strange (fun vs H Q E h => ?_) (fun cdv A outer s H vs Q E hr h => ?_), F.binds fun _ _ _ _ _ _ us hl => match us, hl with | [_, _], _ => rfl, m, F.kp⟩
  · obtain ⟨al, v, r, rfl, _⟩ := h
    rfl
  obtain ⟨al, v, r, rfl, hz, hr2, q⟩ := h
  refine ⟨_, (pss_cons
    (ps_for PassesOwn.never rfl (pi_range1 rfl T.z_range (pa_cons (pe_callB call_len_str rfl T.z_len PySem.boot_len (pa_cons (pv 1) pa_nil)) pa_nil)) (pg_name (i := 2) S__law_first_strange.nd rfl (Or.inl rfl)) (pss_one
    (ps_if (pt_cmpR op_notIn_sign (pe_ix ix_str (pv 1) (pv 2) (fun _ _ => rfl)) (pv 0) rfl) (pss_one
    (ps_ret (pv 2))) pss_nil)))
    (pss_one
    (ps_ret (pe_un un_neg pe_int)))), ?_⟩
  refine q_forR1 (n := (v.length : Int)) (ea_cons (ev_lenS (by omega) (ev_var rfl)) ea_nil) (by omega) (fun i σ' H' => (∃ u, σ' = [some (tx al), some (tx v), u]) ∧ Ex H H' ∧ ∀ j, j < i → v.getD j 0 ∈ al) ?_ ?_ ?_
  · intro H1 e1
    exact ⟨⟨none, rfl⟩, e1, fun j hj => absurd hj (Nat.not_lt_zero _)⟩
  · intro i σ' H' hi z
    obtain ⟨⟨u, rfl⟩, e1, hin⟩ := z
    have hi2 : i < v.length := by omega
    refine s_when (et_test (ev_op (ev_ixS (i := i) (c := v.getD i 0) (by omega) (get_ex hi2) (ev_var rfl) (ev_var rfl)) (ev_var rfl) rv_niSign)) (fun hb H2 e2 => ?_) (fun hb H2 e2 => ?_)
    · rw [Bool.not_eq_true'] at hb
      have hb := of_decide_eq_false hb
      have er : r = (i : Int) := by
        rcases hr2 with ⟨_, h⟩ | ⟨k, rfl, hk⟩
        · exact absurd (h _ (List.mem_of_getElem? (get_ex hi2))) hb
        · have := bad1_uniq hk hi2 hin hb
          rw [this]
      rw [er] at q
      exact s_ret (ev_var rfl) fun H3 e3 => q H3 ((e1.trans e2).trans e3)
    · rw [Bool.not_eq_false'] at hb
      have hb := of_decide_eq_true hb
      refine ⟨⟨_, rfl⟩, e1.trans e2, fun j hj => ?_⟩
      by_cases c : j < i
      · exact hin j c
      · have : j = i := by omega
        rw [this]
        exact hb
  · intro σ' H' z
    obtain ⟨⟨u, rfl⟩, e1, hin⟩ := z
    rw [Int.toNat_natCast] at hin
    have er : r = -1 := by
      rcases hr2 with ⟨h, _⟩ | ⟨k, rfl, hk⟩
      · exact h
      · exact absurd hk (bad1_none hin)
    rw [er] at q
    exact s_ret (ev_is (ev_un ev_c ru_neg) rfl) fun H3 e3 => q H3 (e1.trans e3)
end
end Ver
namespace Ver
open PySem PySem.Spec PyProof.Rows L2 Evl
/-- the 95 signs and the newline -/
def cs95 : List Nat := (List.range 5).map (· + 32) ++ (List.range 89).map (· + 38) ++ [10]
theorem cs95_is : Str.ofString " !\"#$&'()*+,-./0123456789:;<=>?@ABCDEFGHIJKLMNOPQRSTUVWXYZ[\\]^_`abcdefghijklmnopqrstuvwxyz{|}~\n" = SX.S cs95 := by decide +kernel
theorem cs95_low : ∀ c ∈ cs95, c < 128 := by decide +kernel
theorem sp_out {al : List Nat} (hA : Alf al) : (32 : Nat) ∉ al := fun h => by
  have := hA.let' 32 h
  omega
theorem perm_signs : ∀ {ys : List Str} {cs : List Nat}, ys.Perm (cs.map fun c => SX.S [c]) → ∃ ds : List Nat, ys = ds.map (fun c => SX.S [c]) ∧ ds.Perm cs := by
  intro ys cs hp
  let g : Str → Nat := fun s => s.cps.toList.headD 0
  have hg : ∀ c, g (SX.S [c]) = c := fun c => rfl
  have hy : ys = (ys.map g).map fun c => SX.S [c] := by
    rw [List.map_map]
    have : ∀ y ∈ ys, ((fun c => SX.S [c]) ∘ g) y = y := fun y hy => by
      obtain ⟨c, _, rfl⟩ := List.mem_map.mp (hp.mem_iff.mp hy)
      rfl
    exact (List.map_id' ys).symm.trans (List.map_congr_left fun y h => (this y h).symm)
  refine ⟨ys.map g, hy, ?_⟩
  have h := hp.map g
  rw [List.map_map] at h
  have e : cs.map (g ∘ fun c => SX.S [c]) = cs := (List.map_congr_left fun c _ => hg c).trans (List.map_id' cs)
  rw [e] at h
  exact h
def spo : List Nat := [65, 66, 90, 32, 95, 126, 33, 47, 58, 64, 91, 123]
theorem spo_is : Str.ofString "ABZ _~!/:\x40[{" = SX.S spo := by decide +kernel
theorem spo_bad : ∀ c ∈ spo, ¬ ((48 ≤ c ∧ c ≤ 57) ∨ (97 ≤ c ∧ c ≤ 122)) ∧ c < 128 := by decide +kernel
theorem Alf.low {al : List Nat} (hA : Alf al) : ∀ c ∈ al, c < 128 := fun c hc => by
  have := hA.let' c hc
  omega
section
variable {P : Program} {w : World} {K : PySem.W.Frag} {mg : Str → Option Value} {base : Heap} {C_Cut : Addr} {C_Round : Addr}
/-! ### _law_spoilt -/
def spSpo (K : PySem.W.Frag) : Sp := fun vs H Q _ => ∃ (al al2 v : List Nat) (a : Addr) (r : List Int), vs = [tx al, tx al2, tx v, .ref a] ∧ Alf al ∧ Alf al2 ∧ (∀ c ∈ v, c < 128) ∧ v.length ≤ 400 ∧ SqL K H a (r.map V.int) ∧ r.length = 6 ∧ ∀ u : List Nat, (∀ c ∈ u, c < 128) → u.length ≤ 402 → RetV (tx u) H Q
theorem has_spo (F : At K mg "_law_spoilt" s__law_spoilt) (T : Top K mg C_Cut C_Round) : Has P w K mg base "_law_spoilt" s__law_spoilt ["signs", "wider", "word", "row"] 1 (spSpo K) := by
  obtain ⟨f, fd, F, m⟩ := F.ex
  refine ⟨f, fd, F, F.ok S__law_spoilt (fun vs H Q E h => ?_) (fun cdv A outer s H vs Q E hr h => ?_), F.binds fun _ _ _ _ _ _ us hl => match us, hl with | [_, _, _, _], _ => rfl, m, F.kp⟩
  · obtain ⟨al, al2, v, a, r, rfl, _⟩ := h
    rfl
  obtain ⟨al, al2, v, a, r, rfl, hA, hA2, hv, hz, hR, hr6, q⟩ := h
  refine ⟨_, (pss_cons
    (ps_setLc (i := 4) (own := [("letter", 10)]) (g := gName 10) (tt := _) rfl S__law_spoilt.nd rfl (rfl) (sw_true rfl rfl rfl (by decide +kernel)) (pi_str pe_str) (blkOk_by (N := N__law_spoilt) (sc := defScope s__law_spoilt) (by decide +kernel)) (fun _ _ _ _ _ => pg_name (i := 10) S__law_spoilt.nd rfl (Or.inl rfl)) (fun _ _ _ _ _ => pts_one (pt_cmpR op_notIn_sign (pv 10) (pv 0) rfl)) (fun _ _ _ _ _ => (pv 10)))
    (pss_cons
    (ps_setLc (i := 5) (own := [("letter", 10)]) (g := gName 10) (tt := _) rfl S__law_spoilt.nd rfl (rfl) (sw_true rfl rfl rfl (by decide +kernel)) (pi_str (pv 1)) (blkOk_by (N := N__law_spoilt) (sc := defScope s__law_spoilt) (by decide +kernel)) (fun _ _ _ _ _ => pg_name (i := 10) S__law_spoilt.nd rfl (Or.inl rfl)) (fun _ _ _ _ _ => pts_one (pt_cmpR op_notIn_sign (pv 10) (pv 0) rfl)) (fun _ _ _ _ _ => (pv 10)))
    (pss_cons
    (ps_set (i := 6) S__law_spoilt.nd rfl (Or.inl rfl) (pe_lst (pa_cons (pe_ix (r := rIxL K) ix_list (pv 4) (pe_op op_mod (pe_callTy call_int1 rfl T.z_int (by decide +kernel) (pa_cons (pe_ix (r := rIxL K) ix_list (pv 3) pe_int (fun _ _ => rfl)) pa_nil)) (pe_callB call_len_seq rfl T.z_len PySem.boot_len (pa_cons (pv 4) pa_nil))) (fun _ _ => rfl)) (pa_cons (pe_ix (r := rIxL K) ix_list (pv 4) (pe_op op_mod (pe_callTy call_int1 rfl T.z_int (by decide +kernel) (pa_cons (pe_ix (r := rIxL K) ix_list (pv 3) pe_int (fun _ _ => rfl)) pa_nil)) (pe_callB call_len_seq rfl T.z_len PySem.boot_len (pa_cons (pv 4) pa_nil))) (fun _ _ => rfl)) pa_nil))))
    (pss_cut
    (ps_if (PW.pt (pw_and (pt_cmpR op_eq (pe_ix (r := rIxL K) ix_list (pv 3) pe_int (fun _ _ => rfl)) pe_int (nomark _)) (pw_and1 (pt_cmpR op_gt (pe_callB call_len_seq rfl T.z_len PySem.boot_len (pa_cons (pv 5) pa_nil)) pe_int (nomark _))))) (pss_one
    (ps_set (i := 6) S__law_spoilt.nd rfl (Or.inl rfl) (pe_lst (pa_cons (pe_ix (r := rIxL K) ix_list (pv 5) pe_int (fun _ _ => rfl)) (pa_cons (pe_ix (r := rIxL K) ix_list (pv 5) pe_int (fun _ _ => rfl)) pa_nil))))) pss_nil)
    (pss_cons
    (ps_set (i := 7) S__law_spoilt.nd rfl (Or.inl rfl) (pe_op op_mod (pe_callTy call_int1 rfl T.z_int (by decide +kernel) (pa_cons (pe_ix (r := rIxL K) ix_list (pv 3) pe_int (fun _ _ => rfl)) pa_nil)) (pe_op op_add (pe_callB call_len_str rfl T.z_len PySem.boot_len (pa_cons (pv 2) pa_nil)) pe_int)))
    (pss_cons
    (ps_set (i := 8) S__law_spoilt.nd rfl (Or.inl rfl) (pe_op op_add_str (pe_op op_add_str (pe_slice sl_str (pv 2) po_none (po_some (pv 7))) (pe_ix (r := rIxL K) ix_list (pv 6) pe_int (fun _ _ => rfl))) (pe_slice sl_str (pv 2) (po_some (pv 7)) po_none)))
    (pss_cut
    (ps_if (pt_cmpR op_eq (pe_ix (r := rIxL K) ix_list (pv 3) pe_int (fun _ _ => rfl)) pe_int (nomark _)) (pss_cons
    (ps_set (i := 9) S__law_spoilt.nd rfl (Or.inl rfl) (pe_op op_add (pe_op op_add (pv 7) pe_int) (pe_op op_mod (pe_callTy call_int1 rfl T.z_int (by decide +kernel) (pa_cons (pe_ix (r := rIxL K) ix_list (pv 3) pe_int (fun _ _ => rfl)) pa_nil)) (pe_op op_add (pe_op op_sub (pe_callB call_len_str rfl T.z_len PySem.boot_len (pa_cons (pv 2) pa_nil)) (pv 7)) pe_int))))
    (pss_one
    (ps_set (i := 8) S__law_spoilt.nd rfl (Or.inl rfl) (pe_op op_add_str (pe_op op_add_str (pe_slice sl_str (pv 8) po_none (po_some (pv 9))) (pe_ix (r := rIxL K) ix_list (pv 6) pe_int (fun _ _ => rfl))) (pe_slice sl_str (pv 8) (po_some (pv 9)) po_none))))) pss_nil)
    (pss_one
    (ps_ret (pv 8)))))))))), ?_⟩
  have h6 := hA2.six
  refine q_asgL (el_out (x := cs95) (al := al) (i := 0) (ev_is ev_c (by rw [cs95_is])) (by decide +kernel) (fun a => rfl) (fun a => rfl) (fun a => rfl)) fun ls H1 hls e1 g1 => ?_
  refine q_asgL (el_out (x := al2) (al := al) (i := 0) (ev_var rfl) (by omega) (fun a => rfl) (fun a => rfl) (fun a => rfl)) fun la H2 hla e2 g2 => ?_
  have hpos := out_pos (al := al) (show 32 ∈ cs95 by decide +kernel) (sp_out hA)
  obtain ⟨k1, hk1, ek1⟩ := int_mod (x := at0 r 1) hpos
  obtain ⟨k4, hk4, ek4⟩ := int_mod (x := at0 r 4) hpos
  obtain ⟨c1, hc1, _, hat1⟩ := filt_at hk1
  obtain ⟨c4, hc4, _, hat4⟩ := filt_at hk4
  have one : ∀ {i : Nat} {k : Nat} {c : Nat} {σ : L2.St} {H' : Hp}, i < 6 → at0 r i % ((cs95.filter fun c => !decide (c ∈ al)).length : Int) = (k : Int) → ((cs95.filter fun c => !decide (c ∈ al)).map fun c => tx [c])[k]? = some (tx [c]) → σ[3]? = some (some (.ref a)) → σ[4]? = some (some (.ref ls)) → SqL K H' a (r.map V.int) → SqL K H' ls ((cs95.filter fun c => !decide (c ∈ al)).map fun c => tx [c]) →
      Ev (tOp (rIxL K) (tVar 4) (tOp (rI (fun _ j => 0 < j) fun i j => .int (i % j)) (tCB (fun xs H Q => (∃ i, xs = [V.int i] ∧ Q (V.int i) H) ∨ ∃ k, xs = [V.bl k] ∧ Q (V.int (if k = true then 1 else 0)) H) (tCons (tOp (rIxL K) (tVar 3) (tC (.int (i : Int)))) tNil)) (tCB (fun vs H Q => ∃ p ys, vs = [V.ref p] ∧ (SqL K H p ys ∨ SqT K H p ys) ∧ Q (V.int ys.length) H) (tCons (tVar 4) tNil)))) σ H' (tx [c]) :=
    @fun i k c σ H' hi ek hat s3 s4 hr2 hl2 => ev_op (ev_var s4) (ev_is (ev_mod (i := at0 r i) (j := ((cs95.filter fun c => !decide (c ∈ al)).length : Int)) (by omega) (ev_int (ev_atI hr2 (by omega) rfl (ev_var s3) ev_c)) (ev_is (ev_cb (ea_cons (ev_var s4) ea_nil) (rc_lenL hl2)) (by rw [List.length_map]))) (by rw [ek])) (rv_ixL hl2 (atI_nat hat))
  have hR2 := ex_l (e1.trans e2) hR
  refine q_asgL (xs := [tx [c1], tx [c4]]) (el_lst (ea_cons (one (i := 1) (by decide) ek1 hat1 rfl rfl hR2 (sq_of (e2 _ _ g1))) (ea_cons (one (i := 4) (by decide) ek4 hat4 rfl rfl hR2 (sq_of (e2 _ _ g1))) ea_nil)) (by show 2 ≤ 100000; decide)) fun lp H3 hlp e3 g3 => ?_
  have e13 := (e1.trans e2).trans e3
  refine q_cut (M := fun σ' H' => Ex H H' ∧ ∃ (lp2 : Addr) (d1 d2 : Nat), d1 < 128 ∧ d2 < 128 ∧ H' lp2 = some (.lst [tx [d1], tx [d2]]) ∧ σ' = [some (tx al), some (tx al2), some (tx v), some (.ref a), some (.ref ls), some (.ref la), some (.ref lp2), none, none, none, none]) ?_ ?_
  · have hR3 := ex_l e13 hR
    refine s_when (et_and (et_eqI (ev_atI hR3 (i := 2) (by omega) rfl (ev_var rfl) ev_c) ev_c) fun _ => et_gt (ev_cb (ea_cons (ev_var rfl) ea_nil) (rc_lenL (sq_of (e3 _ _ g2)))) ev_c) (fun hb H4 e4 => ?_) (fun hb H4 e4 => ?_)
    · rw [Bool.and_eq_true] at hb
      have hl := of_decide_eq_true hb.2
      rw [List.length_map] at hl
      obtain ⟨c, hc, _, hat⟩ := filt_at (al := al) (l := al2) (k := 0) (by omega)
      have hix : ∀ {σ : L2.St} {H' : Hp}, σ[5]? = some (some (.ref la)) → Ex H4 H' → Ev (tOp (rIxL K) (tVar 5) (tC (.int 0))) σ H' (tx [c]) := fun hs ex => ev_op (ev_var hs) ev_c (rv_ixL (sq_of (ex _ _ (e4 _ _ (e3 _ _ g2)))) (atI_nat hat))
      refine s_asgL (xs := [tx [c], tx [c]]) (el_lst (ea_cons (hix rfl (Ex.refl H4)) (ea_cons (hix rfl (Ex.refl H4)) ea_nil)) (by show 2 ≤ 100000; decide)) fun l5 H5 hl5 e5 g5 => ⟨(e13.trans e4).trans e5, l5, c, c, hA2.low c hc, hA2.low c hc, g5, rfl⟩
    · exact ⟨e13.trans e4, lp, c1, c4, cs95_low c1 hc1, cs95_low c4 hc4, e4 _ _ g3, rfl⟩
  intro σ' H' z
  obtain ⟨e4, lp2, d1, d2, l1, l2, g4, rfl⟩ := z
  have hR4 := ex_l e4 hR
  obtain ⟨n, hn, en⟩ := int_mod (x := at0 r 0) (n := v.length + 1) (by omega)
  have en : at0 r 0 % ((v.length : Int) + 1) = (n : Int) := en
  refine q_asg (v := .int (n : Int)) (ev_is (ev_mod (j := (v.length : Int) + 1) (by omega) (ev_int (ev_atI hR4 (i := 0) (by omega) rfl (ev_var rfl) ev_c)) (ev_add (ev_lenS (by omega) (ev_var rfl)) ev_c)) (by rw [en])) fun H5 e5 => ?_
  have ix1 : ∀ {σ : L2.St} {H1 : Hp}, σ[6]? = some (some (.ref lp2)) → Ex H5 H1 → Ev (tOp (rIxL K) (tVar 6) (tC (.int 0))) σ H1 (tx [d1]) := fun hs ex => ev_op (ev_var hs) ev_c (rv_ixL (sq_of (ex _ _ (e5 _ _ g4))) (atI_nat (j := 0) rfl))
  have ix2 : ∀ {σ : L2.St} {H1 : Hp}, σ[6]? = some (some (.ref lp2)) → Ex H5 H1 → Ev (tOp (rIxL K) (tVar 6) (tC (.int 1))) σ H1 (tx [d2]) := fun hs ex => ev_op (ev_var hs) ev_c (rv_ixL (sq_of (ex _ _ (e5 _ _ g4))) (atI_nat (j := 1) rfl))
  refine q_asg (v := tx (v.take n ++ [d1] ++ v.drop n)) (ev_is (ev_catS (a := v.take n ++ [d1]) (b := cutL v (some (n : Int)) none) (by
      rw [cutL_from, List.length_append, List.length_take, List.length_drop]
      show min n v.length + 1 + _ ≤ _
      omega) (ev_is (ev_catS (a := cutL v none (some (n : Int))) (b := [d1]) (by rw [cutL_to, List.length_take]; show _ + 1 ≤ _; omega) (ev_slS (by omega) (ev_var rfl) eo_none (eo_some (i := (n : Int)) (ev_var rfl))) (ix1 rfl (Ex.refl H5))) (by rw [cutL_to])) (ev_slS (by omega) (ev_var rfl) (eo_some (i := (n : Int)) (ev_var rfl)) eo_none)) (by rw [cutL_from])) fun H6 e6 => ?_
  have e46 := (e4.trans e5).trans e6
  have hR6 := ex_l e46 hR
  have hu : ∀ c ∈ v.take n ++ [d1] ++ v.drop n, c < 128 := fun c hc => by
    rcases List.mem_append.mp hc with hc | hc
    · rcases List.mem_append.mp hc with hc | hc
      · exact hv c (List.mem_of_mem_take hc)
      · rw [List.mem_singleton.mp hc]
        exact l1
    · exact hv c (List.mem_of_mem_drop hc)
  have hul : (v.take n ++ [d1] ++ v.drop n).length = v.length + 1 := by
    rw [List.length_append, List.length_append, List.length_take, List.length_drop]
    show min n v.length + 1 + (v.length - n) = _
    omega
  generalize v.take n ++ [d1] ++ v.drop n = u at hu hul ⊢
  refine q_cut (M := fun σ' H' => Ex H H' ∧ ∃ u2 : List Nat, (∀ c ∈ u2, c < 128) ∧ u2.length ≤ 402 ∧ σ'[8]? = some (some (tx u2))) ?_ ?_
  · refine s_when (et_eqI (ev_atI hR6 (i := 5) (by omega) rfl (ev_var rfl) ev_c) ev_c) (fun hb H7 e7 => ?_) (fun hb H7 e7 => ?_)
    · have hR7 := ex_l e7 hR6
      obtain ⟨j, hj, ej⟩ := int_mod (x := at0 r 3) (n := v.length - n + 1) (by omega)
      have ej : at0 r 3 % ((v.length : Int) - (n : Int) + 1) = (j : Int) := by
        rw [← ej]
        congr 1
        omega
      refine q_asg (v := .int ((n + 1 + j : Nat) : Int)) (ev_is (ev_add (ev_add (ev_var rfl) ev_c) (ev_mod (j := (v.length : Int) - (n : Int) + 1) (by omega) (ev_int (ev_atI hR7 (i := 3) (by omega) rfl (ev_var rfl) ev_c)) (ev_add (ev_sub (ev_lenS (by omega) (ev_var rfl)) (ev_var rfl)) ev_c))) (by rw [ej]; congr 1)) fun H8 e8 => ?_
      refine s_asg (v := tx (u.take (n + 1 + j) ++ [d2] ++ u.drop (n + 1 + j))) (ev_is (ev_catS (a := u.take (n + 1 + j) ++ [d2]) (b := cutL u (some ((n + 1 + j : Nat) : Int)) none) (by
        rw [cutL_from, List.length_append, List.length_take, List.length_drop]
        show min _ u.length + 1 + _ ≤ _
        omega) (ev_is (ev_catS (a := cutL u none (some ((n + 1 + j : Nat) : Int))) (b := [d2]) (by rw [cutL_to, List.length_take]; show _ + 1 ≤ _; omega) (ev_slS (by omega) (ev_var rfl) eo_none (eo_some (i := ((n + 1 + j : Nat) : Int)) (ev_var rfl))) (ix2 rfl ((e6.trans e7).trans e8))) (by rw [cutL_to])) (ev_slS (by omega) (ev_var rfl) (eo_some (i := ((n + 1 + j : Nat) : Int)) (ev_var rfl)) eo_none)) (by rw [cutL_from])) fun H9 e9 => ⟨((e46.trans e7).trans e8).trans e9, _, fun c hc => ?_, ?_, rfl⟩
      · rcases List.mem_append.mp hc with hc | hc
        · rcases List.mem_append.mp hc with hc | hc
          · exact hu c (List.mem_of_mem_take hc)
          · rw [List.mem_singleton.mp hc]
            exact l2
        · exact hu c (List.mem_of_mem_drop hc)
      · rw [List.length_append, List.length_append, List.length_take, List.length_drop]
        show min _ u.length + 1 + (u.length - _) ≤ _
        omega
    · exact ⟨e46.trans e7, u, hu, by omega, rfl⟩
  intro σ' H' z
  obtain ⟨e7, u2, h1, h2, h3⟩ := z
  exact s_ret (ev_var h3) fun H8 e8 => q u2 h1 h2 H8 (e7.trans e8)
/-! ### _law_no_signs -/
def spNos (K : PySem.W.Frag) : Sp := fun vs H Q _ => ∃ (al : List Nat) (a : Addr) (r : List Int), vs = [tx al, .ref a] ∧ Alf al ∧ SqL K H a (r.map V.int) ∧ r.length = 4 ∧ (0 ≤ at0 r 2 ∧ at0 r 2 < 30) ∧ (0 ≤ at0 r 3 ∧ at0 r 3 < 12) ∧ ∀ u : List Nat, ¬ Alf u → (∀ c ∈ u, c < 128) → u.length ≤ 20 → RetV (tx u) H Q
theorem has_nos (F : At K mg "_law_no_signs" s__law_no_signs) (T : Top K mg C_Cut C_Round) : Has P w K mg base "_law_no_signs" s__law_no_signs ["signs", "row"] 1 (spNos K) := by
  obtain ⟨f, fd, F, m⟩ := F.ex
  refine ⟨f, fd, F, F.ok S__law_no_signs (fun vs H Q E h => ?_) (fun cdv A outer s H vs Q E hr h => ?_), F.binds fun _ _ _ _ _ _ us hl => match us, hl with | [_, _], _ => rfl, m, F.kp⟩
  · obtain ⟨al, a, r, rfl, _⟩ := h
    rfl
  obtain ⟨al, a, r, rfl, hA, hR, hr4, b2, b3, q⟩ := h
  refine ⟨_, (pss_cons
    (ps_set (i := 2) S__law_no_signs.nd rfl (Or.inl rfl) (pe_op op_mod (pe_callTy call_int1 rfl T.z_int (by decide +kernel) (pa_cons (pe_ix (r := rIxL K) ix_list (pv 1) pe_int (fun _ _ => rfl)) pa_nil)) (pe_callB call_len_str rfl T.z_len PySem.boot_len (pa_cons (pv 0) pa_nil))))
    (pss_cons
    (ps_set (i := 3) S__law_no_signs.nd rfl (Or.inl rfl) (pe_ix (r := rIxL K) ix_list (pv 1) pe_int (fun _ _ => rfl)))
    (pss_cons
    (ps_if (pt_cmpR op_eq (pv 3) pe_int (nomark _)) (pss_one
    (ps_ret pe_str)) pss_nil)
    (pss_cons
    (ps_if (pt_cmpR op_eq (pv 3) pe_int (nomark _)) (pss_one
    (ps_ret (pe_op op_add_str (pe_op op_add_str (pe_slice sl_str (pv 0) po_none (po_some (pv 2))) (pe_ix ix_str (pv 0) (pv 2) (fun _ _ => rfl))) (pe_slice sl_str (pv 0) (po_some (pv 2)) po_none)))) pss_nil)
    (pss_cons
    (ps_if (PW.pt (pw_and (pt_cmpR op_eq (pv 3) pe_int (nomark _)) (pw_and1 (pt_cmpR op_gt (pe_callB call_len_str rfl T.z_len PySem.boot_len (pa_cons (pv 0) pa_nil)) pe_int (nomark _))))) (pss_cons
    (ps_set (i := 4) S__law_no_signs.nd rfl (Or.inl rfl) (pe_op op_mod (pe_callTy call_int1 rfl T.z_int (by decide +kernel) (pa_cons (pe_ix (r := rIxL K) ix_list (pv 1) pe_int (fun _ _ => rfl)) pa_nil)) (pe_op op_sub (pe_callB call_len_str rfl T.z_len PySem.boot_len (pa_cons (pv 0) pa_nil)) pe_int)))
    (pss_one
    (ps_ret (pe_op op_add_str (pe_op op_add_str (pe_op op_add_str (pe_slice sl_str (pv 0) po_none (po_some (pv 4))) (pe_ix ix_str (pv 0) (pe_op op_add (pv 4) pe_int) (fun _ _ => rfl))) (pe_ix ix_str (pv 0) (pv 4) (fun _ _ => rfl))) (pe_slice sl_str (pv 0) (po_some (pe_op op_add (pv 4) pe_int)) po_none))))) pss_nil)
    (pss_cons
    (ps_if (pt_cmpR op_eq (pv 3) pe_int (nomark _)) (pss_one
    (ps_ret (pe_slice sl_str pe_str (po_some (pe_ix (r := rIxL K) ix_list (pv 1) pe_int (fun _ _ => rfl))) (po_some (pe_op op_add (pe_ix (r := rIxL K) ix_list (pv 1) pe_int (fun _ _ => rfl)) pe_int))))) pss_nil)
    (pss_cons
    (ps_if (pt_cmpR op_eq (pv 3) pe_int (nomark _)) (pss_one
    (ps_ret (pe_op op_add_str (pv 0) (pe_ix ix_str (pv 0) (pv 2) (fun _ _ => rfl))))) pss_nil)
    (pss_cons
    (ps_if (pt_cmpR op_eq (pv 3) pe_int (nomark _)) (pss_one
    (ps_ret (pe_op op_add_str (pe_op op_add_str (pe_slice sl_str (pv 0) po_none (po_some (pv 2))) (pe_ix ix_str pe_str (pe_ix (r := rIxL K) ix_list (pv 1) pe_int (fun _ _ => rfl)) (fun _ _ => rfl))) (pe_slice sl_str (pv 0) (po_some (pe_op op_add (pv 2) pe_int)) po_none)))) pss_nil)
    (pss_one
    (ps_ret (pe_join pe_str (pe_callB (call_sortedSg rfl) rfl T.z_sorted (by decide +kernel) (pa_cons (pe_op op_add_str (pe_slice sl_str (pv 0) po_none (po_some pe_int)) (pe_ix ix_str pe_str (pe_ix (r := rIxL K) ix_list (pv 1) pe_int (fun _ _ => rfl)) (fun _ _ => rfl))) pa_nil))))))))))))), ?_⟩
  have h6 := hA.six
  have hp := hA.pos
  have low := hA.low
  obtain ⟨n, hn, en⟩ := int_mod (x := at0 r 1) (n := al.length) hp
  have hin := get_ex hn
  have hg : al.getD n 0 ∈ al := List.mem_of_getElem? hin
  refine q_asg (v := .int (n : Int)) (ev_is (ev_mod (j := (al.length : Int)) (by omega) (ev_int (ev_atI hR (i := 1) (by omega) rfl (ev_var rfl) ev_c)) (ev_lenS (by omega) (ev_var rfl))) (by rw [en])) fun H1 e1 => ?_
  have hR1 := ex_l e1 hR
  refine q_asg (ev_atI hR1 (i := 0) (by omega) rfl (ev_var rfl) ev_c) fun H2 e2 => ?_
  have e12 := e1.trans e2
  -- 0
  refine q_when (et_eqI (ev_var rfl) ev_c) (fun hb H3 e3 => ?_) (fun hb H3 e3 => ?_)
  · exact s_ret (v := tx []) (ev_is ev_c (by rw [mt_is])) fun H4 e4 => q [] bad_nil (fun c hc => by cases hc) (by decide) H4 ((e12.trans e3).trans e4)
  have e13 := e12.trans e3
  -- 1
  refine q_when (et_eqI (ev_var rfl) ev_c) (fun hb H4 e4 => ?_) (fun hb H4 e4 => ?_)
  · have hd : al.getD n 0 ∈ cutL al (some (n : Int)) none := by
      rw [cutL_from]
      have e : al.drop n = al.getD n 0 :: al.drop (n + 1) := by
        rw [List.drop_eq_getElem_cons hn, List.getD_eq_getElem?_getD, List.getElem?_eq_getElem hn]
        rfl
      rw [e]
      exact List.mem_cons_self ..
    have hc1 := cutL_len (l := al) (lo := none) (hi := some (n : Int))
    have hc2 := cutL_len (l := al) (lo := some (n : Int)) (hi := none)
    refine s_ret (ev_catS (a := cutL al none (some (n : Int)) ++ [al.getD n 0]) (b := cutL al (some (n : Int)) none) (by rw [List.length_append]; show _ + 1 + _ ≤ _; omega) (ev_catS (b := [al.getD n 0]) (by show _ + 1 ≤ _; omega) (ev_slS (by omega) (ev_var rfl) eo_none (eo_some (i := (n : Int)) (ev_var rfl))) (ev_ixS (i := n) (by omega) hin (ev_var rfl) (ev_var rfl))) (ev_slS (by omega) (ev_var rfl) (eo_some (i := (n : Int)) (ev_var rfl)) eo_none)) fun H5 e5 => q _ (bad_pair (x := al.getD n 0) (y := al.getD n 0) (List.mem_append_right _ (List.mem_singleton.mpr rfl)) hd (Nat.le_refl _)) (fun c hc => ?_) (by rw [List.length_append, List.length_append]; show _ + 1 + _ ≤ _; omega) H5 ((e13.trans e4).trans e5)
    rcases List.mem_append.mp hc with hc | hc
    · rcases List.mem_append.mp hc with hc | hc
      · exact low c (cutL_sub c hc)
      · rw [List.mem_singleton.mp hc]
        exact low _ hg
    · exact low c (cutL_sub c hc)
  have e14 := e13.trans e4
  -- 2
  refine q_when (et_and (et_eqI (ev_var rfl) ev_c) fun _ => et_gt (ev_lenS (by omega) (ev_var rfl)) ev_c) (fun hb H5 e5 => ?_) (fun hb H5 e5 => ?_)
  · rw [Bool.and_eq_true] at hb
    have hl := of_decide_eq_true hb.2
    have hR5 := ex_l (e14.trans e5) hR
    obtain ⟨k, hk, ek⟩ := int_mod (x := at0 r 1) (n := al.length - 1) (by omega)
    have ek : at0 r 1 % ((al.length : Int) - 1) = (k : Int) := by
      rw [← ek]
      congr 1
      omega
    refine q_asg (v := .int (k : Int)) (ev_is (ev_mod (j := (al.length : Int) - 1) (by omega) (ev_int (ev_atI hR5 (i := 1) (by omega) rfl (ev_var rfl) ev_c)) (ev_sub (ev_lenS (by omega) (ev_var rfl)) ev_c)) (by rw [ek])) fun H6 e6 => ?_
    have i1 := get_ex (l := al) (i := k) (by omega)
    have i2 := get_ex (l := al) (i := k + 1) (by omega)
    have g1 : al.getD k 0 ∈ al := List.mem_of_getElem? i1
    have g2 : al.getD (k + 1) 0 ∈ al := List.mem_of_getElem? i2
    have hlt : al.getD k 0 < al.getD (k + 1) 0 := by
      have h1 : k < al.length := by omega
      have h2 : k + 1 < al.length := by omega
      have := List.pairwise_iff_getElem.mp hA.asc k (k + 1) h1 h2 (by omega)
      rw [List.getD_eq_getElem?_getD, List.getElem?_eq_getElem h1, List.getD_eq_getElem?_getD, List.getElem?_eq_getElem h2]
      exact this
    have hc1 := cutL_len (l := al) (lo := none) (hi := some (k : Int))
    have hc2 := cutL_len (l := al) (lo := some ((k + 2 : Nat) : Int)) (hi := none)
    have ek1 : (k : Int) + 1 = ((k + 1 : Nat) : Int) := rfl
    have ek2 : (k : Int) + 2 = ((k + 2 : Nat) : Int) := rfl
    refine s_ret (ev_catS (a := cutL al none (some (k : Int)) ++ [al.getD (k + 1) 0] ++ [al.getD k 0]) (b := cutL al (some ((k + 2 : Nat) : Int)) none) (by rw [List.length_append, List.length_append]; show _ + 1 + 1 + _ ≤ _; omega) (ev_catS (a := cutL al none (some (k : Int)) ++ [al.getD (k + 1) 0]) (b := [al.getD k 0]) (by rw [List.length_append]; show _ + 1 + 1 ≤ _; omega) (ev_catS (b := [al.getD (k + 1) 0]) (by show _ + 1 ≤ _; omega) (ev_slS (by omega) (ev_var rfl) eo_none (eo_some (i := (k : Int)) (ev_var rfl))) (ev_ixS (i := k + 1) (by omega) i2 (ev_var rfl) (ev_is (ev_add (ev_var rfl) ev_c) (by rw [ek1])))) (ev_ixS (i := k) (by omega) i1 (ev_var rfl) (ev_var rfl))) (ev_slS (by omega) (ev_var rfl) (eo_some (i := ((k + 2 : Nat) : Int)) (ev_is (ev_add (ev_var rfl) ev_c) (by rw [ek2]))) eo_none)) fun H7 e7 => q _ ?_ (fun c hc => ?_) (by rw [List.length_append, List.length_append, List.length_append]; show _ + 1 + 1 + _ ≤ _; omega) H7 (((e14.trans e5).trans e6).trans e7)
    · rw [List.append_assoc]
      exact bad_pair (x := al.getD (k + 1) 0) (y := al.getD k 0) (List.mem_append_right _ (List.mem_singleton.mpr rfl)) (List.mem_append_left _ (List.mem_singleton.mpr rfl)) (by omega)
    · rcases List.mem_append.mp hc with hc | hc
      · rcases List.mem_append.mp hc with hc | hc
        · rcases List.mem_append.mp hc with hc | hc
          · exact low c (cutL_sub c hc)
          · rw [List.mem_singleton.mp hc]
            exact low _ g2
        · rw [List.mem_singleton.mp hc]
          exact low _ g1
      · exact low c (cutL_sub c hc)
  have e15 := e14.trans e5
  -- 3
  refine q_when (et_eqI (ev_var rfl) ev_c) (fun hb H6 e6 => ?_) (fun hb H6 e6 => ?_)
  · have hR6 := ex_l (e15.trans e6) hR
    obtain ⟨k, hk⟩ : ∃ k : Nat, at0 r 2 = (k : Int) := ⟨(at0 r 2).toNat, by omega⟩
    have hk2 : k < 30 := by omega
    have e7 : (k : Int) + 7 = ((k + 7 : Nat) : Int) := rfl
    have hcl : (cutL figs (some (k : Int)) (some ((k + 7 : Nat) : Int))).length = 7 := by
      rw [cutL_both, List.length_take, List.length_drop]
      show min 7 (36 - k) = 7
      omega
    refine s_ret (v := tx (cutL figs (some (k : Int)) (some ((k + 7 : Nat) : Int)))) (ev_slS (l := figs) (by decide) (ev_is ev_c (by rw [figs_is])) (eo_some (i := (k : Int)) (ev_is (ev_atI hR6 (i := 2) (by omega) rfl (ev_var rfl) ev_c) (by rw [hk]))) (eo_some (i := ((k + 7 : Nat) : Int)) (ev_is (ev_add (ev_atI hR6 (i := 2) (by omega) rfl (ev_var rfl) ev_c) ev_c) (by rw [hk, e7])))) fun H7 e7 => q _ (bad_long (by rw [hcl]; decide)) (fun c hc => ?_) (by rw [hcl]; decide) H7 ((e15.trans e6).trans e7)
    have := figs_let c (cutL_sub c hc)
    omega
  have e16 := e15.trans e6
  -- 4
  refine q_when (et_eqI (ev_var rfl) ev_c) (fun hb H7 e7 => ?_) (fun hb H7 e7 => ?_)
  · refine s_ret (ev_catS (b := [al.getD n 0]) (by show _ + 1 ≤ _; omega) (ev_var rfl) (ev_ixS (i := n) (by omega) hin (ev_var rfl) (ev_var rfl))) fun H8 e8 => q _ (bad_pair (x := al.getD n 0) (y := al.getD n 0) hg (List.mem_singleton.mpr rfl) (Nat.le_refl _)) (fun c hc => ?_) (by rw [List.length_append]; show _ + 1 ≤ _; omega) H8 ((e16.trans e7).trans e8)
    rcases List.mem_append.mp hc with hc | hc
    · exact low c hc
    · rw [List.mem_singleton.mp hc]
      exact low _ hg
  have e17 := e16.trans e7
  obtain ⟨k, hk⟩ : ∃ k : Nat, at0 r 3 = (k : Int) := ⟨(at0 r 3).toNat, by omega⟩
  have hk2 : k < spo.length := by show k < 12; omega
  have hs := get_ex hk2
  have hsb := spo_bad (spo.getD k 0) (List.mem_of_getElem? hs)
  generalize spo.getD k 0 = sc at hs hsb
  have spx : ∀ {σ : L2.St} {H' : Hp}, σ[1]? = some (some (.ref a)) → Ex H H' → Ev (tOp rIxS (tC (.str (Str.ofString "ABZ _~!/:\x40[{"))) (tOp (rIxL K) (tVar 1) (tC (.int 3)))) σ H' (tx [sc]) := fun h1 ex => ev_ixS (l := spo) (i := k) (by decide) hs (ev_is ev_c (by rw [spo_is])) (ev_is (ev_atI (ex_l ex hR) (i := 3) (by omega) rfl (ev_var h1) ev_c) (by rw [hk]))
  -- 5
  refine q_when (et_eqI (ev_var rfl) ev_c) (fun hb H8 e8 => ?_) (fun hb H8 e8 => ?_)
  · have hc1 := cutL_len (l := al) (lo := none) (hi := some (n : Int))
    have hc2 := cutL_len (l := al) (lo := some ((n + 1 : Nat) : Int)) (hi := none)
    have en1 : (n : Int) + 1 = ((n + 1 : Nat) : Int) := rfl
    refine s_ret (ev_catS (a := cutL al none (some (n : Int)) ++ [sc]) (b := cutL al (some ((n + 1 : Nat) : Int)) none) (by rw [List.length_append]; show _ + 1 + _ ≤ _; omega) (ev_catS (b := [sc]) (by show _ + 1 ≤ _; omega) (ev_slS (by omega) (ev_var rfl) eo_none (eo_some (i := (n : Int)) (ev_var rfl))) (spx rfl (e17.trans e8))) (ev_slS (by omega) (ev_var rfl) (eo_some (i := ((n + 1 : Nat) : Int)) (ev_is (ev_add (ev_var rfl) ev_c) (by rw [en1]))) eo_none)) fun H9 e9 => q _ (bad_sign (c := sc) (List.mem_append_left _ (List.mem_append_right _ (List.mem_singleton.mpr rfl))) hsb.1) (fun c hc => ?_) (by rw [List.length_append, List.length_append]; show _ + 1 + _ ≤ _; omega) H9 ((e17.trans e8).trans e9)
    rcases List.mem_append.mp hc with hc | hc
    · rcases List.mem_append.mp hc with hc | hc
      · exact low c (cutL_sub c hc)
      · rw [List.mem_singleton.mp hc]
        exact hsb.2
    · exact low c (cutL_sub c hc)
  have e18 := e17.trans e8
  have hc1 := cutL_len (l := al) (lo := none) (hi := some ((5 : Nat) : Int))
  refine s_retJoinX ((ea_cons (ev_catS (a := cutL al none (some ((5 : Nat) : Int))) (b := [sc]) (by show _ + 1 ≤ _; omega) (ev_slS (by omega) (ev_var rfl) eo_none (eo_some (i := ((5 : Nat) : Int)) ev_c)) (spx rfl e18)) ea_nil) H8 (Ex.refl H8) _ fun H9 e9 => ⟨cutL al none (some ((5 : Nat) : Int)) ++ [sc], rfl, by rw [List.length_append]; show _ + 1 < 64; omega, fun ys p hpm hs2 hpn => ?_⟩)
  rw [mt_is]
  have hex : ∃ ds : List Nat, ys = ds.map (fun c => SX.S [c]) ∧ ds.Perm (cutL al none (some ((5 : Nat) : Int)) ++ [sc]) := perm_signs hpm
  obtain ⟨ds, rfl, hdp⟩ := hex
  have hdl := hdp.length_eq
  rw [List.length_append] at hdl
  have hdl : ds.length = (cutL al none (some ((5 : Nat) : Int))).length + 1 := hdl
  have ej : (ds.map fun c => SX.S [c]) = (ds.map fun c => [c]).map SX.S := by
    rw [List.map_map]
    rfl
  refine join_ok (ps := ds.map fun c => [c]) (K := K) (.inl (sq_of (by rw [map_tx, ← ej]; exact upd_same))) (by rw [flat_sing]; omega) ?_
  rw [flat_sing]
  refine q ds (bad_sign (c := sc) (hdp.mem_iff.mpr (List.mem_append_right _ (List.mem_singleton.mpr rfl))) hsb.1) (fun c hc => ?_) (by omega) _ ((e18.trans e9).trans (Ex.new hpn))
  rcases List.mem_append.mp (hdp.mem_iff.mp hc) with hc | hc
  · exact low c (cutL_sub c hc)
  · rw [List.mem_singleton.mp hc]
    exact hsb.2
end
end Ver
namespace Ver
open PySem PySem.Spec PyProof.Rows L2 Evl
theorem opt_cast {al : List Nat} (hp : 1 ≤ al.length) (i : Nat) : (((i + 1 : Nat) : Int) * (al.length : Int) - (((i + 1 : Nat) : Int) - 1)) + 1 = (opt al i : Int) := by
  have e : ((i + 1 : Nat) : Int) * (al.length : Int) = (((i + 1) * al.length : Nat) : Int) := (Int.natCast_mul _ _).symm
  have h : (i + 1) * 1 ≤ (i + 1) * al.length := Nat.mul_le_mul_left _ hp
  unfold opt
  rw [e]
  omega
theorem pre_flat (al : List Nat) (rs : Rw) : ∀ n, ((List.range n).map (prt al rs)).flatten = pre al rs n
  | 0 => rfl
  | n + 1 => by
    rw [List.range_succ, List.map_append, List.flatten_append, pre_flat al rs n]
    show _ ++ ([prt al rs n].flatten) = pre al rs n ++ prt al rs n
    simp
theorem big_ok {n : Nat} (h : n ≤ 131072) : (n : Int) ≤ 2 ^ 1000 := Int.le_trans (show (n : Int) ≤ 131072 by omega) (by decide +kernel)
section
variable {P : Program} {w : World} {K : PySem.W.Frag} {mg : Str → Option Value} {base : Heap} {C_Cut : Addr} {C_Round : Addr}
section
variable {σ : L2.St} {H : Hp} {te : TE} {tu tz : TS} {D : Ends}
/-- for i, x in enumerate(a new list, start=k) -/
theorem q_forEN {tk : TA} {k : Int} {xs : List V} {j1 j2 : Nat} (h : EvL te σ H xs) (hk : ∀ H1, Ex H H1 → EvA tk σ H1 [.int k]) (hb : 0 ≤ k ∧ k ≤ 1000) (Pv : Addr → Nat → L2.St → Hp → Prop)
    (h0 : ∀ p H1, H p = none → Ex H H1 → H1 p = some (.lst xs) → Pv p 0 σ H1) (hG : ∀ p i σ' H', Pv p i σ' H' → SqL K H' p xs)
    (hs : ∀ p i x σ' H' H2, xs[i]? = some x → Pv p i σ' H' → Ex H' H2 → tu { D with nx := Pv p (i + 1), ct := Pv p (i + 1), bk := tz D } ((σ'.set j1 (some (.int (k + (i : Int))))).set j2 (some x)) H2)
    (hd : ∀ p σ' H', Pv p xs.length σ' H' → tz D σ' H') : tSeq (tFor (iEnumK K (tCons te tNil) tk) (gPair K j1 j2) tu) tz D σ H := by
  refine h H (Ex.refl H) _ fun p H1 hp e1 h1 => hk H1 e1 H1 (Ex.refl H1) _ fun H2 e2 => ⟨p, k, rfl, rfl, hb, .inl ⟨xs, sq_of (e2 _ _ h1), ?_⟩⟩
  refine for_it (D := { D with nx := tz D }) (walk_eL (xs := xs)) (Pv p) (h0 p H2 hp (e1.trans e2) (e2 _ _ h1)) (fun i σ' H' _ q => hG p i σ' H' q) ?_ (hd p)
  intro i v σ' H3 H4 _ q y
  obtain ⟨T, x, z, rfl, hT, rfl, e3, e4⟩ := y
  cases e3
  exact ⟨T, [.int (k + (i : Int)), z], rfl, st_of upd_same, rfl, _, _, rfl, _, _, rfl, rfl, hs p i z σ' H3 _ e4 q (Ex.new hT)⟩
end
theorem ev_nb {σ : L2.St} {H : Hp} {ta tb : TE} {n m : Nat} (h1 : n < m) (h2 : m ≤ 131072) (ha : Ev ta σ H (.int (n : Int))) (hb : Ev tb σ H (.int (m : Int))) : Ev (tCall spNb [] E0 (tCons ta (tCons tb tNil))) σ H (tx (nbl n m)) :=
  ev_call (ea_cons ha (ea_cons hb ea_nil)) (sv_nb (n := (n : Int)) (m := (m : Int)) (by omega) (by omega) (big_ok h2))
def spPress : Sp := fun vs H Q _ => ∃ al v : List Nat, vs = [tx al, tx v] ∧ Alf al ∧ (∀ c ∈ v, c ∈ al) ∧ v.length ≤ 20100 ∧ RetV (tx (blk al (cutW v))) H Q
theorem has_press (F : At K mg "press" s_press) (T : Top K mg C_Cut C_Round) (h1 : Has P w K mg base "cut_of" s_cut_of ["alphabet", "text"] 7 (spCut C_Cut)) (h2 : Has P w K mg base "place_numbers" s_place_numbers ["alphabet", "rows"] 2 (spPl K))
    (h3 : Has P w K mg base "number_bits" s_number_bits ["number", "options"] 2 spNb) (h4 : Has P w K mg base "free_places" s_free_places ["size", "number"] 1 spFree) : Has P w K mg base "press" s_press ["alphabet", "text"] 8 spPress := by
  obtain ⟨f, fd, F, m⟩ := F.ex
  obtain ⟨f1, fd1, _, G_cut_of, b_cut_of, m_cut_of, k_cut_of⟩ := h1
  obtain ⟨f2, fd2, _, G_place_numbers, b_place_numbers, m_place_numbers, k_place_numbers⟩ := h2
  obtain ⟨f3, fd3, _, G_number_bits, b_number_bits, m_number_bits, k_number_bits⟩ := h3
  obtain ⟨f4, fd4, _, G_free_places, b_free_places, m_free_places, k_free_places⟩ := h4
  refine ⟨f, fd, F, F.ok S_press (fun vs H Q E h => ?_) (fun cdv A outer s H vs Q E hr h => ?_), F.binds fun _ _ _ _ _ _ us hl => match us, hl with | [_, _], _ => rfl, m, F.kp⟩
  · obtain ⟨al, v, rfl, _⟩ := h
    rfl
  obtain ⟨al, v, rfl, hA, hv, hz, q⟩ := h
  refine ⟨_, (pss_cons
    (ps_set (i := 2) S_press.nd rfl (Or.inl rfl) (pe_call G_cut_of (hr.mono (by decide)) rfl m_cut_of k_cut_of b_cut_of .nil pass0 (pa_cons (pv 0) (pa_cons (pv 1) pa_nil))))
    (pss_cons
    (ps_set (i := 3) S_press.nd rfl (Or.inl rfl) (pe_callB call_len_str rfl T.z_len PySem.boot_len (pa_cons (pv 0) pa_nil)))
    (pss_cons
    (ps_set (i := 4) S_press.nd rfl (Or.inl rfl) (pe_lst pa_nil))
    (pss_cons
    (ps_for PassesOwn.never rfl (pi_enumK rfl T.z_enumerate (pa_cons (pe_call G_place_numbers (hr.mono (by decide)) rfl m_place_numbers k_place_numbers b_place_numbers .nil pass0 (pa_cons (pv 0) (pa_cons (pe_fld (pv 2) rfl) pa_nil))) pa_nil) (pk_cons pe_int pk_nil)) (pg_tup rfl (pgs_cons (pg_name (i := 5) S_press.nd rfl (Or.inl rfl)) (pgs_cons (pg_name (i := 6) S_press.nd rfl (Or.inl rfl)) pgs_nil))) (pss_one
    (ps_expr (pe_bm PySem.F.plainAttrs_list PySem.F.slot_list_append PySem.F.type_list_append mt_append (pv 4) (pa_cons (pe_call G_number_bits (hr.mono (by decide)) rfl m_number_bits k_number_bits b_number_bits .nil pass0 (pa_cons (pe_op op_add pe_int (pv 6)) (pa_cons (pe_op op_add (pe_call G_free_places (hr.mono (by decide)) rfl m_free_places k_free_places b_free_places .nil pass0 (pa_cons (pv 3) (pa_cons (pv 5) pa_nil))) pe_int) pa_nil))) pa_nil)))))
    (pss_cons
    (ps_expr (pe_bm PySem.F.plainAttrs_list PySem.F.slot_list_append PySem.F.type_list_append mt_append (pv 4) (pa_cons (pe_call G_number_bits (hr.mono (by decide)) rfl m_number_bits k_number_bits b_number_bits .nil pass0 (pa_cons pe_int (pa_cons (pe_op op_add (pe_call G_free_places (hr.mono (by decide)) rfl m_free_places k_free_places b_free_places .nil pass0 (pa_cons (pv 3) (pa_cons (pe_op op_add (pe_fld (pv 2) rfl) pe_int) pa_nil))) pe_int) pa_nil))) pa_nil)))
    (pss_cons
    (ps_expr (pe_bm PySem.F.plainAttrs_list PySem.F.slot_list_append PySem.F.type_list_append mt_append (pv 4) (pa_cons (pe_call G_number_bits (hr.mono (by decide)) rfl m_number_bits k_number_bits b_number_bits .nil pass0 (pa_cons (pe_fld (pv 2) rfl) (pa_cons (pe_op op_add (pe_fld (pv 2) rfl) pe_int) pa_nil))) pa_nil)))
    (pss_one
    (ps_ret (pe_join pe_str (pv 4)))))))))), ?_⟩
  have h6 := hA.six
  have hp1 := hA.pos
  refine q_callD (vs := [tx al, tx v]) (dvs := []) (ea_cons (ev_var rfl) (ea_cons (ev_var rfl) ea_nil)) fun H1 e1 => ⟨al, v, rfl, hA, hv, hz, fun p H2 hp e2 hc => ?_⟩
  have ko := cut_ok (al := al) v hv
  have hbl := blk_cut_len hA hv
  generalize cutW v = st at *
  obtain ⟨rs, t⟩ := st
  have ok : RowsOk al rs := ko.ok
  have low : t ≤ rs.length := ko.low
  have few : rs.length ≤ v.length := ko.few
  have hbl : (blk al (rs, t)).length = bln al rs.length := hbl
  have hbn := bln_le h6 hp1 (show rs.length ≤ 20100 by omega)
  obtain ⟨dx, ra, pa, sa, xs, c1, c2, c3, c4, c5⟩ := hc.ex
  have e12 := e1.trans e2
  refine q_asg (ev_lenS (by omega) (ev_var rfl)) fun H3 e3 => ?_
  refine q_asgL (xs := []) (el_lst ea_nil (by decide)) fun l H4 hl e4 g4 => ?_
  have e24 := e3.trans e4
  have hl0 : H l = none := fresh_back (e12.trans e3) hl
  have hl2 : H2 l = none := fresh_back e3 hl
  have cl := T.cl_Cut
  refine q_forEN (k := 1) (xs := ((List.range rs.length).map (pnum al rs)).map nat)
    (el_call (ea_cons (ev_var rfl) (ea_cons (ev_fld (ev_var rfl) (e24 _ _ c1) cl T.n_Cut_rows fs_rows) ea_nil)) (fun H5 e5 Q' q' _ => ⟨al, ra, xs, rs, rfl, st_of (e5 _ _ (e24 _ _ c2)), c3.mono (e24.trans e5), ok, hA, by omega, q'⟩))
    (fun _ _ => ea_cons ev_c ea_nil) (by decide)
    (fun np i σ' H' => (∃ u5 u6, σ' = [some (tx al), some (tx v), some (.ref p), some (.int (al.length : Int)), some (.ref l), u5, u6]) ∧ Ex H H' ∧ Ex H2 H' ∧ H' np = some (.lst (((List.range rs.length).map (pnum al rs)).map nat)) ∧ H' l = some (.lst (((List.range i).map (prt al rs)).map tx)) ∧ np ≠ l) ?_ ?_ ?_ ?_
  · intro np H5 hnp e5 h5
    exact ⟨⟨none, none, rfl⟩, ((e12.trans e24).trans e5), e24.trans e5, h5, e5 _ _ g4, (ne_of_none g4 hnp).symm⟩
  · intro np i σ' H' z
    exact sq_of z.2.2.2.1
  · intro np i x σ' H' H5 hx z e5
    obtain ⟨⟨u5, u6, rfl⟩, e6, e7, z1, z2, nz⟩ := z
    have hx2 : x = nat (pnum al rs i) ∧ i < rs.length := by
      have hlt := (List.getElem?_eq_some_iff.mp hx).1
      rw [List.length_map, List.length_map, List.length_range] at hlt
      rw [List.getElem?_map, List.getElem?_map, List.getElem?_range hlt] at hx
      exact ⟨(Option.some.inj hx).symm, hlt⟩
    obtain ⟨rfl, hi⟩ := hx2
    have hlt := pnum_lt hA.asc hp1 ok hi
    have ho := opt_le h6 (show i ≤ 20100 by omega)
    refine s_app (v := tx (prt al rs i)) (e5 _ _ z2) (ev_var rfl) (ev_is (ev_nb (n := 1 + pnum al rs i) (m := opt al i) hlt ho (ev_is (ev_add ev_c (ev_var (v := nat (pnum al rs i)) rfl)) ?_) (ev_is (ev_add (ev_call (ea_cons (ev_var rfl) (ea_cons (ev_is (ev_var rfl) ?_) ea_nil)) (sv_free (n := al.length) (k := i + 1) h6)) ev_c) ?_)) ?_) (by rw [List.length_map, List.length_map, List.length_range]; omega) fun H6 e8 => ⟨⟨_, _, rfl⟩, ((e6.trans e5).trans e8).mut hl0, ((e7.trans e5).trans e8).mut hl2, ?_, ?_, nz⟩
    · rw [Int.natCast_add]
      rfl
    · rw [Int.natCast_add, Int.add_comm]
      rfl
    · rw [opt_cast hp1]
    · unfold prt
      rw [num_pos hi]
    · rw [upd_ne nz]
      exact e8 _ _ (e5 _ _ z1)
    · rw [List.range_succ, List.map_append, List.map_append]
      exact upd_same
  · intro np σ' H' z
    obtain ⟨⟨u5, u6, rfl⟩, e6, e7, z1, z2, nz⟩ := z
    rw [List.length_map, List.length_map, List.length_range] at z2
    have ho := opt_le h6 (show rs.length ≤ 20100 by omega)
    have o2 := opt_two hp1 rs.length
    refine q_app (v := tx (prt al rs rs.length)) z2 (ev_var rfl) (ev_is (ev_nb (n := 0) (m := opt al rs.length) (by omega) ho ev_c (ev_is (ev_add (ev_call (ea_cons (ev_var rfl) (ea_cons (ev_is (ev_add (ev_fld (ev_var rfl) (e7 _ _ c1) cl T.n_Cut_many fs_many) ev_c) ?_) ea_nil)) (sv_free (n := al.length) (k := rs.length + 1) h6)) ev_c) ?_)) ?_) (by rw [List.length_map, List.length_map, List.length_range]; omega) fun H6 e8 => ?_
    · rw [Int.natCast_add]
      rfl
    · rw [opt_cast hp1]
    · unfold prt
      rw [num_end]
    have e28 := (e7.trans e8).mut (o := .lst ((((List.range rs.length).map (prt al rs)).map tx) ++ [tx (prt al rs rs.length)])) hl2
    have e08 := (e6.trans e8).mut (o := .lst ((((List.range rs.length).map (prt al rs)).map tx) ++ [tx (prt al rs rs.length)])) hl0
    have g8 : (L2.upd H6 l (.lst ((((List.range rs.length).map (prt al rs)).map tx) ++ [tx (prt al rs rs.length)]))) l = _ := upd_same
    generalize L2.upd H6 l (.lst ((((List.range rs.length).map (prt al rs)).map tx) ++ [tx (prt al rs rs.length)])) = G at *
    refine q_app (v := tx (nbl t (rs.length + 1))) g8 (ev_var rfl) (ev_nb (n := t) (m := rs.length + 1) (by omega) (by omega) (ev_fld (ev_var rfl) (e28 _ _ c1) cl T.n_Cut_tail fs_tail) (ev_is (ev_add (ev_fld (ev_var rfl) (e28 _ _ c1) cl T.n_Cut_many fs_many) ev_c) ?_)) (by rw [List.length_append, List.length_map, List.length_map, List.length_range]; show _ + 1 < _; omega) fun H7 e9 => ?_
    · rw [Int.natCast_add]
      rfl
    have ef : ((List.range rs.length).map (prt al rs)).map tx ++ [tx (prt al rs rs.length)] ++ [tx (nbl t (rs.length + 1))] = ((List.range (rs.length + 1)).map (prt al rs) ++ [nbl t (rs.length + 1)]).map tx := by
      rw [List.range_succ, List.map_append, List.map_append, List.map_append]
      rfl
    rw [ef]
    have eb : ((List.range (rs.length + 1)).map (prt al rs) ++ [nbl t (rs.length + 1)]).flatten = blk al (rs, t) := by
      rw [List.flatten_append, pre_flat]
      show _ ++ _ = pre al rs (rs.length + 1) ++ nbl t (rs.length + 1)
      simp
    refine s_ret (ev_joinB (ev_is ev_c (by rw [nil_is])) (ev_var rfl) (.inl (sq_of upd_same)) (by rw [eb]; omega)) fun H8 e10 => ?_
    rw [eb]
    exact q H8 (((e08.trans e9).mut hl0).trans e10)
theorem sv_press {al v : List Nat} {H : Hp} (hA : Alf al) (hv : ∀ c ∈ v, c ∈ al) (hz : v.length ≤ 20100) : SpV spPress ([tx al, tx v] ++ []) H (tx (blk al (cutW v))) := fun _ _ _ q _ => ⟨al, v, rfl, hA, hv, hz, q⟩
end
end Ver
namespace Ver
open PySem PySem.Spec PyProof.Rows L2 Evl
section
variable {P : Program} {w : World} {K : PySem.W.Frag} {mg : Str → Option Value} {base : Heap} {C_Cut : Addr} {C_Round : Addr}
/-- a list of new lists, made over range(n) -/
theorem run_lcRL {σ : L2.St} {H : Hp} {tp : TA} {te : TE} {j : Nat} {vs : List Nat} {n : Nat} {Q : VK} (f : Nat → List V) (h : EvA tp σ H [.int (n : Int)]) (hn : n ≤ 1000) (hw : ∀ x, wipe ((wipe σ vs).set j (some x)) vs = wipe σ vs)
    (he : ∀ (i : Nat) H1, Ex H H1 → i < n → EvL te ((wipe σ vs).set j (some (.int (i : Int)))) H1 (f i))
    (q : ∀ Dl H', H Dl = none → Ex H H' → (∃ rr : Nat → Addr, H' Dl = some (.lst ((List.range n).map fun i => .ref (rr i))) ∧ ∀ i, i < n → H' (rr i) = some (.lst (f i))) → Q (.ref Dl) H') :
    tLc (iRng1 tp) (gName j) tYes te vs σ H Q := h H (Ex.refl H) _ fun H1 e1 => ⟨(n : Int), rfl, by omega, by omega, fun Dl hD =>
  lc_range (lo := 0) (n := (n : Int).toNat) (fun i H' => H1 Dl = none ∧ Ex H1 H' ∧ ∃ rr : Nat → Addr, H' Dl = some (.lst ((List.range i).map fun i => .ref (rr i))) ∧ ∀ k, k < i → H' (rr k) = some (.lst (f k)) ∧ rr k ≠ Dl)
    ⟨hD, Ex.new hD, fun _ => 0, upd_same, fun k hk => absurd hk (Nat.not_lt_zero _)⟩ (fun i H' hi p => by
    obtain ⟨p1, p2, rr, p3, p4⟩ := p
    rw [Int.toNat_natCast] at hi
    have e0 : (0 : Int) + (i : Int) = (i : Int) := Int.zero_add _
    show wipe ((wipe σ vs).set j (some (.int ((0 : Int) + (i : Int))))) vs = wipe σ vs ∧ tYes ((wipe σ vs).set j (some (.int ((0 : Int) + (i : Int))))) H' fun b H3 => if b = true then te ((wipe σ vs).set j (some (.int ((0 : Int) + (i : Int))))) H3 _ else _
    rw [e0]
    refine ⟨hw _, ?_⟩
    refine (he i H' (e1.trans p2) hi) H' (Ex.refl H') _ fun r H3 hr e3 h3 => ?_
    have nr : r ≠ Dl := (ne_of_none p3 hr).symm
    refine ⟨_, e3 _ _ p3, sz_lt (by rw [List.length_map, List.length_range]; omega), p1, (p2.trans e3).mut p1, fun k => if k = i then r else rr k, ?_, fun k hk => ?_⟩
    · rw [upd_same, List.range_succ, List.map_append]
      congr 3
      · refine List.map_congr_left fun k hk => ?_
        have := List.mem_range.mp hk
        show V.ref (rr k) = V.ref (if k = i then r else rr k)
        rw [if_neg (by omega)]
      · show [V.ref r] = [V.ref (if i = i then r else rr i)]
        rw [if_pos rfl]
    · by_cases c : k = i
      · subst c
        show (L2.upd H3 Dl _) (if k = k then r else rr k) = _ ∧ (if k = k then r else rr k) ≠ Dl
        rw [if_pos rfl]
        exact ⟨by rw [upd_ne nr]; exact h3, nr⟩
      · show (L2.upd H3 Dl _) (if k = i then r else rr k) = _ ∧ (if k = i then r else rr k) ≠ Dl
        rw [if_neg c]
        obtain ⟨a, b⟩ := p4 k (by omega)
        exact ⟨by rw [upd_ne b]; exact e3 _ _ a, b⟩)
    (fun H' p => by
      obtain ⟨p1, p2, rr, p3, p4⟩ := p
      rw [Int.toNat_natCast] at p3 p4
      exact q Dl H' (fresh_back e1 p1) (e1.trans p2) ⟨rr, p3, fun i hi => (p4 i hi).1⟩)⟩
/-! ### _law_long_word -/
structure LRow (r : List Int) : Prop where
  len : r.length = 8
  b1 : 0 ≤ at0 r 1 ∧ at0 r 1 < 401
def spLong (K : PySem.W.Frag) : Sp := fun vs H Q _ => ∃ (s a : Addr) (al : List Nat) (ns r : List Int) (f : Nat), vs = [.ref s, .int (f : Int), tx al, .ref a] ∧ Alf al ∧ SqL K H s (ns.map V.int) ∧ ns.length ≤ 63 ∧ f ≤ 900 ∧ SqL K H a (r.map V.int) ∧ LRow r ∧ ∀ v, Word al 400 v → RetV (tx v) H Q
theorem at0_rep6 {i : Nat} (h : i < 60) : at0 (List.replicate 60 (6 : Int)) i = 6 := at0_rep h
theorem has_long (F : At K mg "_law_long_word" s__law_long_word) (T : Top K mg C_Cut C_Round) (h1 : Has P w K mg base "_law_free_word" s__law_free_word ["signs", "row", "many"] 1 (spFw K)) (h2 : Has P w K mg base "_law_counting_word" s__law_counting_word ["signs", "many"] 1 spCw)
    (h3 : Has P w K mg base "_law_digits" s__law_digits ["cell", "sizes"] 1 (spDigits K)) (h4 : Has P w K mg base "_law_cell" s__law_cell ["script", "k"] 1 (spCell K)) : Has P w K mg base "_law_long_word" s__law_long_word ["script", "first", "signs", "row"] 2 (spLong K) := by
  obtain ⟨f, fd, F, m⟩ := F.ex
  obtain ⟨f1, fd1, _, G__law_free_word, b__law_free_word, m__law_free_word, k__law_free_word⟩ := h1
  obtain ⟨f2, fd2, _, G__law_counting_word, b__law_counting_word, m__law_counting_word, k__law_counting_word⟩ := h2
  obtain ⟨f3, fd3, _, G__law_digits, b__law_digits, m__law_digits, k__law_digits⟩ := h3
  obtain ⟨f4, fd4, _, G__law_cell, b__law_cell, m__law_cell, k__law_cell⟩ := h4
  refine ⟨f, fd, F, F.ok S__law_long_word (fun vs H Q E h => ?_) (fun cdv A outer s H vs Q E hr h => ?_), F.binds fun _ _ _ _ _ _ us hl => match us, hl with | [_, _, _, _], _ => rfl, m, F.kp⟩
  · obtain ⟨s, a, al, ns, r, f, rfl, _⟩ := h
    rfl
  obtain ⟨s0, a, al, ns, r, f0, rfl, hA, hS, h63, hf0, hR, ⟨hl, b1⟩, q⟩ := h
  refine ⟨_, (pss_cons
    (ps_set (i := 4) S__law_long_word.nd rfl (Or.inl rfl) (pe_ix (r := rIxL K) ix_list (pv 3) pe_int (fun _ _ => rfl)))
    (pss_cons
    (ps_set (i := 5) S__law_long_word.nd rfl (Or.inl rfl) (pe_call G__law_free_word (hr.mono (by decide)) rfl m__law_free_word k__law_free_word b__law_free_word .nil pass0 (pa_cons (pv 2) (pa_cons (pe_slice sl_list (pv 3) (po_some pe_int) po_none) (pa_cons pe_int pa_nil)))))
    (pss_cons
    (ps_if (pt_cmpR op_eq (pe_ix (r := rIxL K) ix_list (pv 3) pe_int (fun _ _ => rfl)) pe_int (nomark _)) (pss_one
    (ps_ret (pe_slice sl_str (pe_op op_mulS (pe_ix ix_str (pv 5) pe_int (fun _ _ => rfl)) pe_int) po_none (po_some (pv 4))))) pss_nil)
    (pss_cons
    (ps_if (pt_cmpR op_eq (pe_ix (r := rIxL K) ix_list (pv 3) pe_int (fun _ _ => rfl)) pe_int (nomark _)) (pss_one
    (ps_ret (pe_slice sl_str (pe_op op_mulS (pv 5) pe_int) po_none (po_some (pv 4))))) pss_nil)
    (pss_cons
    (ps_if (pt_cmpR op_eq (pe_ix (r := rIxL K) ix_list (pv 3) pe_int (fun _ _ => rfl)) pe_int (nomark _)) (pss_one
    (ps_ret (pe_call G__law_counting_word (hr.mono (by decide)) rfl m__law_counting_word k__law_counting_word b__law_counting_word .nil pass0 (pa_cons (pv 2) (pa_cons (pv 4) pa_nil))))) pss_nil)
    (pss_cons
    (ps_set (i := 6) S__law_long_word.nd rfl (Or.inl rfl) (pe_slice sl_str (pv 5) po_none (po_some pe_int)))
    (pss_cons
    (ps_if (pt_cmpR op_eq (pe_ix (r := rIxL K) ix_list (pv 3) pe_int (fun _ _ => rfl)) pe_int (nomark _)) (pss_cons
    (ps_for PassesOwn.never rfl (pi_range1 rfl T.z_range (pa_cons pe_int pa_nil)) (pg_name (i := 7) S__law_long_word.nd rfl (Or.inl rfl)) (pss_one
    (ps_set (i := 6) S__law_long_word.nd rfl (Or.inl rfl) (pe_op op_add_str (pe_op op_add_str (pv 6) (pe_ix ix_str (pv 5) (pe_op op_add pe_int (pe_op op_mod (pv 7) pe_int)) (fun _ _ => rfl))) (pv 6)))))
    (pss_one
    (ps_ret (pe_slice sl_str (pv 6) po_none (po_some (pv 4)))))) pss_nil)
    (pss_cons
    (ps_if (pt_cmpR op_eq (pe_ix (r := rIxL K) ix_list (pv 3) pe_int (fun _ _ => rfl)) pe_int (nomark _)) (pss_cons
    (ps_set (i := 8) S__law_long_word.nd rfl (Or.inl rfl) (pe_op op_mod (pe_callTy call_int1 rfl T.z_int (by decide +kernel) (pa_cons (pe_ix (r := rIxL K) ix_list (pv 3) pe_int (fun _ _ => rfl)) pa_nil)) (pe_op op_add (pv 4) pe_int)))
    (pss_one
    (ps_ret (pe_slice sl_str (pe_op op_add_str (pe_op op_add_str (pe_slice sl_str (pe_op op_mulS (pv 6) pe_int) po_none (po_some (pv 8))) (pe_ix ix_str (pv 5) pe_int (fun _ _ => rfl))) (pe_op op_mulS (pv 6) pe_int)) po_none (po_some (pv 4)))))) pss_nil)
    (pss_cons
    (ps_setLc (i := 9) (own := [("k", 7)]) (g := gName 7) (tt := tYes) rfl S__law_long_word.nd rfl (rfl) (sw_true rfl rfl rfl (by decide +kernel)) (pi_range1 rfl T.z_range (pa_cons pe_int pa_nil)) (blkOk_by (N := N__law_long_word) (sc := defScope s__law_long_word) (by decide +kernel)) (fun _ _ _ _ _ => pg_name (i := 7) S__law_long_word.nd rfl (Or.inl rfl)) (fun _ _ _ _ _ => pts_nil) (fun _ _ _ _ _ => (pe_call G__law_digits (hr.mono (by decide)) rfl m__law_digits k__law_digits b__law_digits .nil pass0 (pa_cons (pe_call G__law_cell (hr.mono (by decide)) rfl m__law_cell k__law_cell b__law_cell .nil pass0 (pa_cons (pv 0) (pa_cons (pe_op op_add (pv 1) (pv 7)) pa_nil))) (pa_cons (pe_op op_rep (pe_lst (pa_cons pe_int pa_nil)) pe_int) pa_nil)))))
    (pss_one
    (ps_ret (pe_slice sl_str (pe_join pe_str (pe_lc (own := [("part", 10)]) (g := gName 10) (tt := tYes) rfl S__law_long_word.nd (pi_list (pv 9)) (blkOk_by (N := N__law_long_word) (sc := defScope s__law_long_word) (by decide +kernel)) (fun _ _ _ _ _ => pg_name (i := 10) S__law_long_word.nd rfl (Or.inl rfl)) (fun _ _ _ _ _ => pts_nil) (fun _ _ _ _ _ => (pe_call G__law_free_word (hr.mono (by decide)) rfl m__law_free_word k__law_free_word b__law_free_word .nil pass0 (pa_cons (pv 2) (pa_cons (pv 10) (pa_cons pe_int pa_nil))))))) po_none (po_some (pv 4)))))))))))))), ?_⟩
  obtain ⟨n, hn, en⟩ : ∃ n : Nat, n ≤ 400 ∧ at0 r 1 = (n : Int) := ⟨(at0 r 1).toNat, by omega, by omega⟩
  refine q_asg (v := .int (n : Int)) (ev_is (ev_atI hR (i := 1) (by omega) rfl (ev_var rfl) ev_c) (by rw [en])) fun H1 e1 => ?_
  have hR1 := ex_l e1 hR
  refine q_asg (ev_fw (r := r.drop 2) (n := 5) hA (ev_var rfl) (el_from (n := 2) rfl (ev_var rfl) hR1) (fun _ _ => ev_c) (by rw [List.length_drop]; omega) (by decide)) fun H2 e2 => ?_
  have fo := fwL_over hA (r := r.drop 2) (n := 5)
  have fl := fwL_len (al := al) (r := r.drop 2) (n := 5)
  generalize fwL al (r.drop 2) 5 = fr at fo fl ⊢
  have hR2 := ex_l e2 hR1
  have e12 := e1.trans e2
  have out : ∀ {te : TE} {σ : L2.St} {H' : Hp} {v : List Nat}, Ex H H' → Ev te σ H' (tx v) → (∀ c ∈ v, c ∈ al) → v.length ≤ 100000 → σ[4]? = some (some (.int (n : Int))) → tRet (tSl rSlS te tNoPart (tPart (tVar 4))) { nx := fun x H' => Q V.non H', rt := Q } σ H' :=
    fun e h ho hz hs => s_ret (ev_slS hz h eo_none (eo_some (i := (n : Int)) (ev_var hs))) fun H5 e5 => q _ (Word.cut ho hn) H5 (e.trans e5)
  have hge0 := get_ex (l := fr) (i := 0) (by omega)
  refine q_when (et_eqI (ev_atI hR2 (i := 0) (by omega) rfl (ev_var rfl) ev_c) ev_c) (fun hb H3 e3 => ?_) (fun hb H3 e3 => ?_)
  · exact out (e12.trans e3) (ev_mulS (l := [fr.getD 0 0]) (n := 400) (by decide) (by show 1 * 400 ≤ 100000; decide) (ev_ixS (i := 0) (by omega) hge0 (ev_var rfl) ev_c) ev_c) (over_rep (over_at fo hge0)) (by rw [rep_len]; show 400 * 1 ≤ 100000; decide) rfl
  have hR3 := ex_l e3 hR2
  refine q_when (et_eqI (ev_atI hR3 (i := 0) (by omega) rfl (ev_var rfl) ev_c) ev_c) (fun hb H4 e4 => ?_) (fun hb H4 e4 => ?_)
  · exact out ((e12.trans e3).trans e4) (ev_mulS (l := fr) (n := 80) (by decide) (by omega) (ev_var rfl) ev_c) (over_rep fo) (by rw [rep_len]; omega) rfl
  have hR4 := ex_l e4 hR3
  have e14 := (e12.trans e3).trans e4
  refine q_when (et_eqI (ev_atI hR4 (i := 0) (by omega) rfl (ev_var rfl) ev_c) ev_c) (fun hb H5 e5 => ?_) (fun hb H5 e5 => ?_)
  · refine s_retCall (vs := [tx al, .int (n : Int)]) (ea_cons (ev_var rfl) (ea_cons (ev_var rfl) ea_nil)) fun H8 e8 => ⟨al, n, rfl, hA, hn, fun v hv H9 e9 => q v ⟨hv.over, Nat.le_trans hv.len hn⟩ H9 (((e14.trans e5).trans e8).trans e9)⟩
  have hR5 := ex_l e5 hR4
  have e15 := e14.trans e5
  refine q_asg (ev_slS (by omega) (ev_var rfl) eo_none (eo_some (i := ((2 : Nat) : Int)) ev_c)) fun H6 e6 => ?_
  have hR6 := ex_l e6 hR5
  have e16 := e15.trans e6
  have wo : ∀ c ∈ cutL fr none (some ((2 : Nat) : Int)), c ∈ al := over_cut fo
  have wl : (cutL fr none (some ((2 : Nat) : Int))).length = 2 := by
    rw [cutL_to, List.length_take]
    omega
  generalize cutL fr none (some ((2 : Nat) : Int)) = wd at wo wl ⊢
  refine q_when (et_eqI (ev_atI hR6 (i := 0) (by omega) rfl (ev_var rfl) ev_c) ev_c) (fun hb H7 e7 => ?_) (fun hb H7 e7 => ?_)
  · refine q_forR1 (ea_cons ev_c ea_nil) (by decide) (fun i σ' H' => ∃ (v : List Nat) (u7 : Option V), σ' = [some (.ref s0), some (.int (f0 : Int)), some (tx al), some (.ref a), some (.int (n : Int)), some (tx fr), some (tx v), u7, none, none, none] ∧ Ex H H' ∧ (∀ c ∈ v, c ∈ al) ∧ v.length + 1 ≤ 3 * 2 ^ i) ?_ ?_ ?_
    · intro H10 e10
      refine ⟨wd, none, rfl, (e16.trans e7).trans e10, wo, ?_⟩
      rw [wl]
      decide
    · intro i σ' H' hi z
      obtain ⟨v, u6, rfl, e10, vo, vz⟩ := z
      have hi2 : i < 8 := by
        have : (i : Int) < 8 := hi
        omega
      have hp : 2 ^ i ≤ 2 ^ 8 := Nat.pow_le_pow_right (by decide) (by omega)
      have hp5 : (2 : Nat) ^ 8 = 256 := rfl
      have hge := get_ex (l := fr) (i := 2 + i % 3) (by omega)
      have e3' : (2 : Int) + (i : Int) % 3 = ((2 + i % 3 : Nat) : Int) := by omega
      refine s_asg (ev_catS (a := v ++ [fr.getD (2 + i % 3) 0]) (by rw [List.length_append]; show _ + 1 + _ ≤ _; omega) (ev_catS (b := [fr.getD (2 + i % 3) 0]) (by show _ + 1 ≤ _; omega) (ev_var rfl) (ev_ixS (i := 2 + i % 3) (by omega) hge (ev_var rfl) (ev_is (ev_add ev_c (ev_mod (j := 3) (by decide) (ev_var rfl) ev_c)) (by rw [e3'])))) (ev_var rfl)) fun H11 e11 => ⟨_, _, rfl, e10.trans e11, over_app (over_app vo (over_at fo hge)) vo, ?_⟩
      rw [List.length_append, List.length_append, Nat.pow_succ]
      show v.length + 1 + v.length + 1 ≤ _
      omega
    · intro σ' H' z
      obtain ⟨v, u6, rfl, e10, vo, vz⟩ := z
      have hp5 : (2 : Nat) ^ (8 : Int).toNat = 256 := rfl
      exact out e10 (ev_var rfl) vo (by omega) rfl
  have hR7 := ex_l e7 hR6
  have e17 := e16.trans e7
  refine q_when (et_eqI (ev_atI hR7 (i := 0) (by omega) rfl (ev_var rfl) ev_c) ev_c) (fun hb H8 e8 => ?_) (fun hb H8 e8 => ?_)
  · obtain ⟨k, hk, ek⟩ := int_mod (x := at0 r 7) (n := n + 1) (by omega)
    have ek2 : at0 r 7 % ((n : Int) + 1) = (k : Int) := by
      rw [← ek, Int.natCast_add]
      rfl
    refine q_asg (v := .int (k : Int)) (ev_is (ev_mod (j := (n : Int) + 1) (by omega) (ev_int (ev_atI (ex_l e8 hR7) (i := 7) (by omega) rfl (ev_var rfl) ev_c)) (ev_add (ev_var rfl) ev_c)) (by rw [ek2])) fun H9 e9 => ?_
    have hge2 := get_ex (l := fr) (i := 2) (by omega)
    have hrl : (List.replicate 200 wd).flatten.length = 400 := by
      rw [rep_len, wl]
    have hcl := cutL_len (l := (List.replicate 200 wd).flatten) (lo := none) (hi := some (k : Int))
    refine out ((e17.trans e8).trans e9) (ev_catS (a := cutL (List.replicate 200 wd).flatten none (some (k : Int)) ++ [fr.getD 2 0]) (b := (List.replicate 200 wd).flatten) (by rw [List.length_append]; show _ + 1 + _ ≤ _; omega) (ev_catS (b := [fr.getD 2 0]) (by show _ + 1 ≤ _; omega) (ev_slS (by omega) (ev_mulS (n := 200) (by decide) (by omega) (ev_var rfl) ev_c) eo_none (eo_some (i := (k : Int)) (ev_var rfl))) (ev_ixS (i := 2) (by omega) hge2 (ev_var rfl) ev_c)) (ev_mulS (n := 200) (by decide) (by omega) (ev_var rfl) ev_c))
      (over_app (over_app (over_cut (over_rep wo)) (over_at fo hge2)) (over_rep wo)) (by rw [List.length_append, List.length_append]; show _ + 1 + _ ≤ _; omega) rfl
  have e18 := e17.trans e8
  have hS8 := ex_l e18 hS
  -- parts: new lists of digits
  let dg : Nat → List Int := fun k => digits (cell ns ((f0 : Int) + (k : Int))) (List.replicate 60 6)
  have dl : ∀ k, (dg k).length = 60 := fun k => by
    show (digits _ _).length = 60
    rw [digits_len, List.length_replicate]
  refine q_asgX (run_lcRL (n := 7) (fun k => (dg k).map V.int) (ea_cons (ev_c (v := .int ((7 : Nat) : Int))) ea_nil) (by decide) (fun x => rfl) (fun i H9 e9 hi => ?_) (fun Dl H9 hD e9 hrr => ?_))
  · refine el_digs (ss := List.replicate 60 6) (ev_call (ea_cons (ev_var rfl) (ea_cons (ev_add (ev_var rfl) (ev_var rfl)) ea_nil)) (sv_cell (ex_l e9 hS8) h63 (by omega))) ?_ (by rw [List.length_replicate]; decide) (fun i hi => by rw [List.length_replicate] at hi; rw [at0_rep6 hi]; decide)
    rw [map_rep, ← flat_one]
    exact el_rep (n := 60) (el_lst (ea_cons ev_c ea_nil) (by show 1 ≤ 100000; decide)) (fun _ _ => ev_c) (by show 1 * 60 ≤ 100000; decide) (by decide)
  · obtain ⟨rr, hD9, hr9⟩ := hrr
    let pw : Nat → List Nat := fun i => fwL al (dg i) 60
    have hpf : ∀ s ∈ (List.range 7).map pw, s.length = 60 := fun s hs => by
      obtain ⟨k, _, rfl⟩ := List.mem_map.mp hs
      exact fwL_len
    have hflat : ((List.range 7).map pw).flatten.length = 420 := by
      rw [flat_len hpf, List.length_map, List.length_range]
    refine out (e18.trans e9) (ev_joinL (ps := (List.range 7).map pw) (ev_is ev_c (by rw [mt_is])) ?_ (by omega)) (flat_over fun s hs => ?_) (by omega) rfl
    · have gg := el_lcL (K := K) (σ := [some (.ref s0), some (.int (f0 : Int)), some (tx al), some (.ref a), some (.int (n : Int)), some (tx fr), some (tx wd), none, none, some (.ref Dl), none]) (H := H9) (tl := tVar 9) (j := 10) (vs := [10]) (t := tYes) (te := tCall (spFw K) [] E0 (tCons (tVar 2) (tCons (tVar 10) (tCons (tC (.int 60)) tNil)))) (a := Dl) (xs := (List.range 7).map fun i => V.ref (rr i))
        (fun _ => true) (fun i => tx (pw i)) (ev_var rfl) (sq_of hD9) (by rw [List.length_map, List.length_range]; decide) (fun x => rfl) (fun i x H1 e1 hx => et_yes) (fun i x H1 e1 hx _ => ?_)
      · rw [List.length_map, List.length_range, given_all] at gg
        rw [List.map_map]
        exact gg
      · have hi7 : i < 7 := by
          have := (List.getElem?_eq_some_iff.mp hx).1
          rw [List.length_map, List.length_range] at this
          exact this
        rw [List.getElem?_map, List.getElem?_range hi7] at hx
        cases hx
        exact ev_call (ea_cons (ev_var rfl) (ea_cons (ev_var rfl) (ea_cons (ev_c (v := .int ((60 : Nat) : Int))) ea_nil))) (sv_fw hA (sq_of (e1 _ _ (hr9 i hi7))) (by rw [dl]; exact Nat.le_refl _) (by decide))
    · obtain ⟨k, _, rfl⟩ := List.mem_map.mp hs
      exact fwL_over hA
end
end Ver
namespace Ver
open PySem PySem.Spec PyProof.Rows L2 Evl
/-! ### the law's own cut -/
structure DictS (kvs : List (Key × V)) (ps : List (List Nat)) : Prop where
  len : kvs.length = ps.length
  there : ∀ s ∈ ps, valV kvs (Sum.inr (SX.S s)) = some (.int (ps.idxOf s : Int))
  not : ∀ s, s ∉ ps → valV kvs (Sum.inr (SX.S s)) = none
theorem DictS.put {kvs : List (Key × V)} {ps : List (List Nat)} {s : List Nat} (h : DictS kvs ps) (hs : s ∉ ps) : DictS (putK kvs (Sum.inr (SX.S s)) (.int (ps.length : Int))) (ps ++ [s]) := by
  refine ⟨?_, fun q hq => ?_, fun q hq => ?_⟩
  · rw [putK_new _ (h.not s hs), List.length_append, List.length_append, h.len]
    rfl
  · rw [valV_put]
    by_cases c : q = s
    · rw [c, if_pos rfl, List.idxOf_append, if_neg hs]
      simp
    · rw [if_neg fun e => c (SX.S_inj (Sum.inr.inj e))]
      rcases List.mem_append.mp hq with hq | hq
      · rw [h.there q hq, List.idxOf_append, if_pos hq]
      · exact absurd (List.mem_singleton.mp hq) c
  · rw [valV_put, if_neg fun e => hq (by rw [SX.S_inj (Sum.inr.inj e)]; exact List.mem_append_right _ (List.mem_singleton.mpr rfl))]
    exact h.not q fun hm => hq (List.mem_append_left _ hm)
structure LCut (H : Hp) (p : Addr) (v : List Nat) : Prop where
  ex : ∃ (ra pa : Addr) (xs : List V), H p = some (.lst [.ref ra, .int ((cutW v).2 : Int), .ref pa]) ∧ H ra = some (.tup xs) ∧ RowsAt H xs (cutW v).1 ∧ H pa = some (.lst ((pcs (cutW v).1).map tx))
theorem LCut.mono {H H' : Hp} {p : Addr} {v : List Nat} (h : LCut H p v) (e : Ex H H') : LCut H' p v := by
  obtain ⟨ra, pa, xs, h1, h2, h3, h4⟩ := h.ex
  exact ⟨ra, pa, xs, e _ _ h1, e _ _ h2, h3.mono e, e _ _ h4⟩
section
variable {P : Program} {w : World} {K : PySem.W.Frag} {mg : Str → Option Value} {base : Heap} {C_Cut : Addr} {C_Round : Addr}
section
variable {σ : L2.St} {H : Hp} {D : Ends} {t1 t2 t3 : TE}
theorem s_retLst3 {xs : List V} {y z : V} (h1 : EvU t1 σ H xs) (h2 : ∀ H1, Ex H H1 → Ev t2 σ H1 y) (h3 : ∀ H1, Ex H H1 → Ev t3 σ H1 z) (k : ∀ r p H1, H p = none → Ex H H1 → H1 r = some (.tup xs) → H1 p = some (.lst [.ref r, y, z]) → D.rt (.ref p) H1) :
    tRet (tLst (tCons t1 (tCons t2 (tCons t3 tNil)))) D σ H := h1 H (Ex.refl H) _ fun r H1 hr e1 g1 => h2 H1 e1 H1 (Ex.refl H1) _ fun H2 e2 => h3 H2 (e1.trans e2) H2 (Ex.refl H2) _ fun H3 e3 =>
  ⟨by show 3 ≤ sizeLine; decide, fun p hp => k r p _ (fresh_back ((e1.trans e2).trans e3) hp) (((e1.trans e2).trans e3).trans (Ex.new hp)) (Ex.new hp _ _ (e3 _ _ (e2 _ _ g1))) upd_same⟩
end
def spLc : Sp := fun vs H Q _ => ∃ al v : List Nat, vs = [tx v] ∧ (∀ c ∈ v, c ∈ al) ∧ v.length ≤ 20100 ∧ ∀ p H2, H p = none → Ex H H2 → LCut H2 p v → Q (.ref p) H2
theorem has_lc (F : At K mg "_law_cut" s__law_cut) (T : Top K mg C_Cut C_Round) : Has P w K mg base "_law_cut" s__law_cut ["word"] 1 spLc := by
  obtain ⟨f, fd, F, m⟩ := F.ex
  refine ⟨f, fd, F, F.ok S__law_cut (fun vs H Q E h => ?_) (fun cdv A outer s H vs Q E hr h => ?_), F.binds fun _ _ _ _ _ _ us hl => match us, hl with | [_], _ => rfl, m, F.kp⟩
  · obtain ⟨al, v, rfl, _⟩ := h
    rfl
  obtain ⟨al, v, rfl, hv, hz, q⟩ := h
  refine ⟨_, (pss_cons
    (ps_set (i := 1) S__law_cut.nd rfl (Or.inl rfl) (pe_lst (pa_cons pe_str pa_nil)))
    (pss_cons
    (ps_set (i := 2) S__law_cut.nd rfl (Or.inl rfl) (pe_disp (pps_cons pe_str pe_int pps_nil) (by rfl) (by rfl) (fun z => by cases z) (by decide)))
    (pss_cons
    (ps_set (i := 3) S__law_cut.nd rfl (Or.inl rfl) (pe_lst pa_nil))
    (pss_cons
    (ps_set (i := 4) S__law_cut.nd rfl (Or.inl rfl) pe_str)
    (pss_cons
    (ps_for PassesOwn.never rfl (pi_str (pv 0)) (pg_name (i := 5) S__law_cut.nd rfl (Or.inl rfl)) (pss_one
    (ps_if (pt_cmp (pc_din (hu_of hr) (pe_op op_add_str (pv 4) (pv 5)) (pv 2))) (pss_one
    (ps_set (i := 4) S__law_cut.nd rfl (Or.inl rfl) (pe_op op_add_str (pv 4) (pv 5)))) (pss_cons
    (ps_expr (pe_bm PySem.F.plainAttrs_list PySem.F.slot_list_append PySem.F.type_list_append mt_append (pv 3) (pa_cons (pe_tup (pa_cons (pe_dget (hu_of hr) (pv 2) (pv 4) (fun _ _ => rfl)) (pa_cons (pv 5) pa_nil))) pa_nil)))
    (pss_cons
    (ps_dput (hu_of hr) (pv 2) (pe_op op_add_str (pv 4) (pv 5)) (pe_callB call_len_seq rfl T.z_len PySem.boot_len (pa_cons (pv 1) pa_nil)) rfl)
    (pss_cons
    (ps_expr (pe_bm PySem.F.plainAttrs_list PySem.F.slot_list_append PySem.F.type_list_append mt_append (pv 1) (pa_cons (pe_op op_add_str (pv 4) (pv 5)) pa_nil)))
    (pss_one
    (ps_set (i := 4) S__law_cut.nd rfl (Or.inl rfl) pe_str))))))))
    (pss_one
    (ps_ret (pe_lst (pa_cons (pe_callTy call_tuple_of rfl T.z_tuple (by decide +kernel) (pa_cons (pv 3) pa_nil)) (pa_cons (pe_dget (hu_of hr) (pv 2) (pv 4) (fun _ _ => rfl)) (pa_cons (pv 1) pa_nil))))))))))), ?_⟩
  refine q_asgL (xs := [[]].map tx) (el_lst (ea_cons (ev_is ev_c (by rw [mt_is])) ea_nil) (by show 1 ≤ 100000; decide)) fun l H1 hl e1 g1 => ?_
  refine q_asgX fun d hd => ?_
  have g0 : (L2.upd H1 d (.dK [])) d = some (.dK []) := upd_same
  refine ⟨g0, [(Sum.inr (SX.S []), V.int 0)], by rw [← mt_is]; rfl, by decide, ?_⟩
  have ed : Ex H1 (L2.upd (L2.upd H1 d (.dK [])) d (.dK (mergeK [] [(Sum.inr (SX.S []), V.int 0)]))) := (Ex.refl H1).mut hd |>.mut hd
  have gd : (L2.upd (L2.upd H1 d (.dK [])) d (.dK (mergeK [] [(Sum.inr (SX.S []), V.int 0)]))) d = some (.dK [(Sum.inr (SX.S []), V.int 0)]) := by
    rw [upd_same]
    rfl
  generalize L2.upd (L2.upd H1 d (.dK [])) d (.dK (mergeK [] [(Sum.inr (SX.S []), V.int 0)])) = H2 at ed gd ⊢
  refine q_asgL (xs := []) (el_lst ea_nil (by decide)) fun rl H3 hrl e3 g3 => ?_
  refine q_asg (v := tx []) (ev_is ev_c (by rw [mt_is])) fun H4 e4 => ?_
  have e02 := e1.trans ed
  have hl0 : H l = none := hl
  have hd0 : H d = none := fresh_back e1 hd
  have hr0 : H rl = none := fresh_back e02 hrl
  have e04 := (e02.trans e3).trans e4
  refine q_forS (z := SX.S v) (ev_var rfl) (fun i σ' H' => (∃ u5, σ' = [some (tx v), some (.ref l), some (.ref d), some (.ref rl), some (tx ((pcs (cutW (v.take i)).1).getD (cutW (v.take i)).2 [])), u5]) ∧ Ex H H' ∧
    H' l = some (.lst ((pcs (cutW (v.take i)).1).map tx)) ∧ (∃ kvs, H' d = some (.dK kvs) ∧ DictS kvs (pcs (cutW (v.take i)).1)) ∧ ∃ xs, H' rl = some (.lst xs) ∧ RowsAt H' xs (cutW (v.take i)).1) ?_ ?_ ?_
  · intro H5 e5
    refine ⟨⟨none, rfl⟩, e04.trans e5, e5 _ _ (e4 _ _ (e3 _ _ (ed _ _ g1))), ⟨_, e5 _ _ (e4 _ _ (e3 _ _ gd)), ⟨rfl, fun s hs => ?_, fun s hs => ?_⟩⟩, [], e5 _ _ (e4 _ _ g3), .nil⟩
    · rw [List.mem_singleton.mp hs]
      rfl
    · refine valV_neg fun e => hs ?_
      rw [← SX.S_inj (Sum.inr.inj e)]
      exact List.mem_singleton.mpr rfl
  · intro i c σ' H' hc p
    obtain ⟨⟨u5, rfl⟩, e6, h1, ⟨kvs, h2, dk⟩, xs, h3, hR⟩ := p
    have hc2 : v[i]? = some c := hc
    have hi := (List.getElem?_eq_some_iff.mp hc2).1
    have et : v.take (i + 1) = v.take i ++ [c] := by
      rw [List.take_add_one, hc2]
      rfl
    have ko := cut_ok (al := al) (v.take i) fun x hx => hv x (List.mem_of_mem_take hx)
    rw [et, cut_snoc]
    generalize cutW (v.take i) = st at *
    obtain ⟨rs, cur⟩ := st
    have few : rs.length ≤ (v.take i).length := ko.few
    rw [List.length_take] at few
    have low : cur ≤ rs.length := ko.low
    obtain ⟨nd, rows, ex⟩ := pcs_facts rs ko.ok
    have hpl := pcs_len rs
    have hpt := pcs_at rs cur
    have hxl : xs.length = rs.length := hR.len
    have hcat : ∀ {H1 : Hp} {σ' : L2.St}, σ'[4]? = some (some (tx ((pcs rs).getD cur []))) → σ'[5]? = some (some (tx [c])) → Ev (tOp (fun x y H Q => ∃ i j : Str, x = .str i ∧ y = .str j ∧ i.length + j.length ≤ sizeLine ∧ Q (.str (i ++ j)) H) (tVar 4) (tVar 5)) σ' H1 (tx ((pcs rs).getD cur [] ++ [c])) :=
      fun h4 h5 => ev_catS (b := [c]) (by show _ + 1 ≤ _; omega) (ev_var h4) (ev_var h5)
    have nld : l ≠ d := ne_of h1 h2 (by intro z; cases z)
    have nrd : rl ≠ d := ne_of h3 h2 (by intro z; cases z)
    have h1 : H' l = some (.lst ((pcs rs).map tx)) := h1
    refine s_if (et_din (o := valV kvs (Sum.inr (SX.S ((pcs rs).getD cur [] ++ [c])))) (hcat rfl rfl) (ev_var rfl) fun H8 e8 => DGet.k (k := Sum.inr (SX.S ((pcs rs).getD cur [] ++ [c]))) (e8 _ _ h2)) (fun hb H8 e8 => ?_) (fun hb H8 e8 => ?_)
    · have hin : (pcs rs).getD cur [] ++ [c] ∈ pcs rs := by
        refine Classical.byContradiction fun hn => ?_
        rw [dk.not _ hn] at hb
        cases hb
      have hm : (cur, c) ∈ rs := (ex cur c low).mp hin
      have es : cutStep (rs, cur) c = (rs, rs.idxOf (cur, c) + 1) := if_pos hm
      rw [es]
      refine s_asg (hcat rfl rfl) fun H9 e9 => ⟨⟨some (tx [c]), ?_⟩, (e6.trans e8).trans e9, e9 _ _ (e8 _ _ h1), ⟨kvs, e9 _ _ (e8 _ _ h2), dk⟩, xs, e9 _ _ (e8 _ _ h3), hR.mono (e8.trans e9)⟩
      · show _ = [some (tx v), some (V.ref l), some (V.ref d), some (V.ref rl), some (tx ((pcs rs).getD (rs.idxOf (cur, c) + 1) [])), some (tx [c])]
        rw [rows _ cur c (idx_row hm).2]
        rfl
    · have hout : (pcs rs).getD cur [] ++ [c] ∉ pcs rs := fun hn => by
        rw [dk.there _ hn] at hb
        cases hb
      have hm : (cur, c) ∉ rs := fun h => hout ((ex cur c low).mpr h)
      have es : cutStep (rs, cur) c = (rs ++ [(cur, c)], 0) := if_neg hm
      rw [es]
      have hcm : (pcs rs).getD cur [] ∈ pcs rs := getD_mem (by omega)
      have hval := dk.there _ hcm
      rw [idx_getD nd (by omega)] at hval
      have e68 := e6.trans e8
      refine q_appU (ys := [.int (cur : Int), tx [c]]) (e8 _ _ h3) (ev_var rfl) (eu_tup (ea_cons (ev_dget (ev_var rfl) (ev_var rfl) fun H9 e9 => ?_) (ea_cons (ev_var rfl) ea_nil)) (by show 2 ≤ 100000; decide)) (by omega) fun r H9 hr e9 g9 => ?_
      · have g := DGet.k (k := Sum.inr (SX.S ((pcs rs).getD cur []))) (e9 _ _ (e8 _ _ h2))
        rw [hval] at g
        exact g
      have e89 := e8.trans e9
      have nrr : r ≠ rl := ne_of g9 (e89 _ _ h3) (by intro z; cases z)
      have k1 : (L2.upd H9 rl (.lst (xs ++ [.ref r]))) l = some (.lst ((pcs rs).map tx)) ∨ True := .inr trivial
      by_cases nlr : l = rl
      · -- the list of rows is younger than that of the pieces
        exfalso
        rw [nlr] at h1
        rw [h1] at h3
        have e := Option.some.inj h3
        cases e
        have hlx := hxl
        rw [List.length_map, hpl] at hlx
        omega
      have k1 : (L2.upd H9 rl (.lst (xs ++ [.ref r]))) l = some (.lst ((pcs rs).map tx)) := by
        rw [upd_ne nlr]
        exact e89 _ _ h1
      have k2 : (L2.upd H9 rl (.lst (xs ++ [.ref r]))) d = some (.dK kvs) := by
        rw [upd_ne nrd.symm]
        exact e89 _ _ h2
      have k3 : (L2.upd H9 rl (.lst (xs ++ [.ref r]))) rl = some (.lst (xs ++ [.ref r])) := upd_same
      have kr' : (L2.upd H9 rl (.lst (xs ++ [.ref r]))) r = some (.tup [.int (cur : Int), tx [c]]) := by
        rw [upd_ne nrr]
        exact g9
      have kR : RowsAt (L2.upd H9 rl (.lst (xs ++ [.ref r]))) (xs ++ [.ref r]) (rs ++ [(cur, c)]) := ((hR.mono e89).upd (e89 _ _ h3) (fun ys => by intro z; cases z)).snoc kr'
      have ke : Ex H (L2.upd H9 rl (.lst (xs ++ [.ref r]))) := (e6.trans e89).mut hr0
      generalize L2.upd H9 rl (.lst (xs ++ [.ref r])) = G at k1 k2 k3 kR ke ⊢
      refine q_dput (v := .int ((pcs rs).length : Int)) (g := fun H10 => L2.upd H10 d (.dK (putK kvs (Sum.inr (SX.S ((pcs rs).getD cur [] ++ [c]))) (.int ((pcs rs).length : Int))))) (ev_is (ev_cb (ea_cons (ev_var rfl) ea_nil) (rc_lenL (sq_of k1))) (by rw [List.length_map])) (ev_var rfl) (hcat rfl rfl) (fun H10 e10 => DPut.k (k := Sum.inr (SX.S ((pcs rs).getD cur [] ++ [c]))) (e10 _ _ k2) (sz_lt (by rw [dk.len]; show (pcs rs).length < 100000; omega))) fun H10 e10 => ?_
      have m1 : (L2.upd H10 d (.dK (putK kvs (Sum.inr (SX.S ((pcs rs).getD cur [] ++ [c]))) (.int ((pcs rs).length : Int))))) l = some (.lst ((pcs rs).map tx)) := by
        rw [upd_ne nld]
        exact e10 _ _ k1
      have m2 : (L2.upd H10 d (.dK (putK kvs (Sum.inr (SX.S ((pcs rs).getD cur [] ++ [c]))) (.int ((pcs rs).length : Int))))) d = some (.dK (putK kvs (Sum.inr (SX.S ((pcs rs).getD cur [] ++ [c]))) (.int ((pcs rs).length : Int)))) := upd_same
      have m3 : (L2.upd H10 d (.dK (putK kvs (Sum.inr (SX.S ((pcs rs).getD cur [] ++ [c]))) (.int ((pcs rs).length : Int))))) rl = some (.lst (xs ++ [.ref r])) := by
        rw [upd_ne nrd]
        exact e10 _ _ k3
      have mR := (kR.mono e10).upd (o := .dK (putK kvs (Sum.inr (SX.S ((pcs rs).getD cur [] ++ [c]))) (.int ((pcs rs).length : Int)))) (e10 _ _ k2) (fun ys => by intro z; cases z)
      have me : Ex H (L2.upd H10 d (.dK (putK kvs (Sum.inr (SX.S ((pcs rs).getD cur [] ++ [c]))) (.int ((pcs rs).length : Int))))) := (ke.trans e10).mut hd0
      generalize L2.upd H10 d (.dK (putK kvs (Sum.inr (SX.S ((pcs rs).getD cur [] ++ [c]))) (.int ((pcs rs).length : Int)))) = G2 at m1 m2 m3 mR me ⊢
      refine q_app m1 (ev_var rfl) (hcat rfl rfl) (by show ((pcs rs).map tx).length < 100000; rw [List.length_map]; omega) fun H11 e11 => ?_
      have hnew : pcs (rs ++ [(cur, c)]) = pcs rs ++ [(pcs rs).getD cur [] ++ [c]] := pcs_snoc rs (cur, c)
      refine s_asg (v := tx []) (ev_is ev_c (by rw [mt_is])) fun H12 e12 => ⟨⟨some (tx [c]), ?_⟩, ((me.trans e11).mut hl0).trans e12, ?_, ⟨_, e12 _ _ (by rw [upd_ne nld.symm]; exact e11 _ _ m2), ?_⟩, xs ++ [.ref r], e12 _ _ (by rw [upd_ne (Ne.symm nlr)]; exact e11 _ _ m3), ((mR.mono e11).upd (e11 _ _ m1) (fun ys => by intro z; cases z)).mono e12⟩
      · show _ = [some (tx v), some (V.ref l), some (V.ref d), some (V.ref rl), some (tx ((pcs (rs ++ [(cur, c)])).getD 0 [])), some (tx [c])]
        rw [pcs_zero]
        rfl
      · refine e12 _ _ ?_
        show (L2.upd H11 l _) l = some (.lst ((pcs (rs ++ [(cur, c)])).map tx))
        rw [upd_same, hnew, List.map_append]
        rfl
      · show DictS _ (pcs (rs ++ [(cur, c)]))
        rw [hnew]
        exact dk.put hout
  · intro σ' H' p
    obtain ⟨⟨u5, rfl⟩, e6, h1, ⟨kvs, h2, dk⟩, xs, h3, hR⟩ := p
    have ef : v.take (SX.S v).cps.size = v := by
      show v.take v.toArray.size = v
      simp
    rw [ef] at h1 dk hR ⊢
    have ko := cut_ok (al := al) v hv
    obtain ⟨nd, rows, ex⟩ := pcs_facts _ ko.ok
    have hpl := pcs_len (cutW v).1
    have low := ko.low
    have hcm : (pcs (cutW v).1).getD (cutW v).2 [] ∈ pcs (cutW v).1 := getD_mem (by omega)
    have hval := dk.there _ hcm
    rw [idx_getD nd (by omega)] at hval
    refine s_retLst3 (eu_tupOf (ev_var rfl) (sq_of h3)) (fun H7 e7 => ev_dget (ev_var rfl) (ev_var rfl) fun H9 e9 => ?_) (fun H7 e7 => ev_var rfl) fun r p H7 hp e7 g7 k7 => q p H7 (fresh_back e6 hp) (e6.trans e7) ⟨r, l, xs, k7, g7, hR.mono e7, e7 _ _ h1⟩
    have g := DGet.k (k := Sum.inr (SX.S ((pcs (cutW v).1).getD (cutW v).2 []))) (e9 _ _ (e7 _ _ h2))
    rw [hval] at g
    exact g
end
end Ver
namespace Ver
open PySem PySem.Spec PyProof.Rows L2 Evl
theorem RowsAt.take {H : Hp} {xs : List V} {rs : Rw} (h : RowsAt H xs rs) (n : Nat) : RowsAt H (xs.take n) (rs.take n) := ⟨by rw [List.length_take, List.length_take, h.len], fun i p c e => by
  rw [List.getElem?_take] at e
  split at e
  · rename_i hi
    obtain ⟨r, a, b⟩ := h.row i p c e
    exact ⟨r, by rw [List.getElem?_take, if_pos hi]; exact a, b⟩
  · cases e⟩
theorem RowsAt.drop {H : Hp} {xs : List V} {rs : Rw} (h : RowsAt H xs rs) (n : Nat) : RowsAt H (xs.drop n) (rs.drop n) := ⟨by rw [List.length_drop, List.length_drop, h.len], fun i p c e => by
  rw [List.getElem?_drop] at e
  obtain ⟨r, a, b⟩ := h.row (n + i) p c e
  exact ⟨r, by rw [List.getElem?_drop]; exact a, b⟩⟩
theorem RowsAt.app {H : Hp} {xs ys : List V} {rs qs : Rw} (h : RowsAt H xs rs) (g : RowsAt H ys qs) : RowsAt H (xs ++ ys) (rs ++ qs) := ⟨by rw [List.length_append, List.length_append, h.len, g.len], fun i p c e => by
  by_cases hi : i < rs.length
  · rw [List.getElem?_append_left hi] at e
    obtain ⟨r, a, b⟩ := h.row i p c e
    exact ⟨r, by rw [List.getElem?_append_left (by rw [h.len]; exact hi)]; exact a, b⟩
  · rw [List.getElem?_append_right (by omega)] at e
    obtain ⟨r, a, b⟩ := g.row _ p c e
    exact ⟨r, by rw [List.getElem?_append_right (by rw [h.len]; omega), h.len]; exact a, b⟩⟩
section
variable {K : PySem.W.Frag} {σ : L2.St} {H : Hp} {ta tb tl t1 te : TE} {Q : VK}
theorem s_asgY {D : Ends} {i : Nat} (h : te σ H fun x H1 => D.nx (σ.set i (some x)) H1) : tAsg te (gName i) D σ H := h
theorem cutV_to' {xs : List V} (n : Nat) : cutV xs none (some (n : Int)) = xs.take n := by
  unfold cutV
  rw [HT.sIx_none, HT.sIx_nat]
  simp only [Nat.sub_zero, List.drop_zero]
  by_cases h : n ≤ xs.length
  · rw [Nat.min_eq_left h]
  · rw [Nat.min_eq_right (by omega), List.take_length, List.take_of_length_le (by omega)]
/-- a list of new pairs (a number, a sign) made over a text -/
theorem run_lcPairs {j : Nat} {vs : List Nat} {x : List Nat} {n : Nat} (h : Ev tl σ H (tx x)) (hz : x.length ≤ 1000) (hw : ∀ a, wipe ((wipe σ vs).set j (some a)) vs = wipe σ vs)
    (h1 : ∀ (a : V) H1, Ex H H1 → Ev t1 ((wipe σ vs).set j (some a)) H1 (.int (n : Int))) (hj : ∀ a : V, ((wipe σ vs).set j (some a))[j]? = some (some a))
    (q : ∀ l ys H2, H l = none → Ex H H2 → H2 l = some (.lst ys) → RowsAt H2 ys (x.map fun c => (n, c)) → Q (.ref l) H2) : tLc (iStr tl) (gName j) tYes (tTup (tCons t1 (tCons (tVar j) tNil))) vs σ H Q := h H (Ex.refl H) _ fun H1 e1 => ⟨SX.S x, rfl, fun Dl hD => by
  have hn : (SX.S x).cps.size = x.length := by
    show x.toArray.size = _
    simp
  refine lc_it (walk_str (z := SX.S x)) (fun i H' => H1 Dl = none ∧ Ex H1 H' ∧ ∃ ys, H' Dl = some (.lst ys) ∧ RowsAt H' ys ((x.take i).map fun c => (n, c))) ⟨hD, Ex.new hD, [], upd_same, RowsAt.nil⟩ (fun _ _ _ _ => trivial) (fun i z H' H2 hi p yp => ?_) (fun H' p => ?_)
  · obtain ⟨rfl, c, hc, rfl⟩ := yp
    have hc2 : x[i]? = some c := by
      have : (SX.S x).cps.toList[i]? = some c := by rw [Array.getElem?_toList]; exact hc
      exact this
    have hlt := (List.getElem?_eq_some_iff.mp hc2).1
    obtain ⟨p1, p2, ys, p3, p4⟩ := p
    refine ⟨hw _, (show EvT tYes ((wipe σ vs).set j (some (tx [c]))) H2 true from et_yes) H2 (Ex.refl H2) _ fun H3 e3 => ?_⟩
    rw [if_pos rfl]
    refine (eu_tup (ea_cons (h1 (tx [c]) H3 ((e1.trans p2).trans e3)) (ea_cons (ev_var (hj _)) ea_nil)) (by show 2 ≤ 100000; decide)) H3 (Ex.refl H3) _ fun r H4 hr e4 g3 => ⟨ys, e4 _ _ (e3 _ _ p3), sz_lt (by have := p4.len; rw [List.length_map, List.length_take] at this; omega), p1, (p2.trans (e3.trans e4)).mut p1, ys ++ [.ref r], upd_same, ?_⟩
    have et : ((x.take (i + 1)).map fun c => (n, c)) = ((x.take i).map fun c => (n, c)) ++ [(n, c)] := by
      rw [List.take_add_one, hc2, List.map_append]
      rfl
    rw [et]
    exact ((p4.mono (e3.trans e4)).snoc (r := r) (p := n) (c := c) g3).upd (e4 _ _ (e3 _ _ p3)) fun ys => by
      intro z
      cases z
  · obtain ⟨p1, p2, ys, p3, p4⟩ := p
    rw [hn, List.take_length] at p4
    exact q Dl ys H' (fresh_back e1 p1) (e1.trans p2) p3 p4⟩
theorem pd_lay {r : Nat × Nat} (h : r.2 < 1114112) : PyData.canLay0 (pd r) = true ∧ PyData.depth (pd r) ≤ 1 := lay_pd h
/-- where a row stands in a list of rows -/
theorem ev_lidx {a r : Addr} {xs : List V} {F : Rw} {q : Nat × Nat} (ha : Ev ta σ H (.ref a)) (hb : Ev tb σ H (.ref r)) (hl : H a = some (.lst xs)) (hR : RowsAt H xs F) (hr : H r = some (.tup [.int (q.1 : Int), tx [q.2]])) (hq : q ∈ F) (hu : ∀ r ∈ F, r.2 < 1114112) :
    Ev (tBM K "list" (rIndexD K) ta (tCons tb tNil)) σ H (.int (F.idxOf q : Int)) :=
  ev_bm ha (fun H1 e => Or.inl ⟨rfl, xs, sq_of (e _ _ hl)⟩) (ea_cons hb ea_nil) fun H1 e Q q' => by
    have hj := List.idxOf_lt_length_of_mem hq
    refine ⟨a, .ref r, pd q, F.map pd, F.idxOf q, pd q, rfl, rfl, .lst (sq_of (e _ _ hl)) (dp_rows _ _ (hR.mono e)), dp_row (e _ _ hr), shaped_lst (n := 1) (fun d hd => ?_) (by decide), pd_shaped q (hu q hq), ?_, ?_, fun m z hm hz => ?_, q' H1 (Ex.refl H1)⟩
    · obtain ⟨p, hp, rfl⟩ := List.mem_map.mp hd
      exact lay_pd (hu p hp)
    · rw [List.getElem?_map, List.getElem?_eq_getElem hj, List.getElem_idxOf hj]
      rfl
    · rw [pd_eqv]
      exact decide_eq_true rfl
    · rw [List.getElem?_map] at hz
      have hml : m < F.length := by omega
      rw [List.getElem?_eq_getElem hml] at hz
      cases Option.some.inj hz
      rw [pd_eqv]
      refine decide_eq_false fun e => ?_
      have h2 := List.not_of_lt_findIdx (p := fun x => x == q) (xs := F) (i := m) hm
      rw [e] at h2
      simp at h2
end
/-- the numbers of a block -/
def bnums (al : List Nat) (s : Rw × Nat) : List (List Nat) := (List.range (s.1.length + 1)).map (prt al s.1) ++ [nbl s.2 (s.1.length + 1)]
theorem bnums_flat (al : List Nat) (s : Rw × Nat) : (bnums al s).flatten = blk al s := by
  unfold bnums blk
  rw [List.flatten_append, pre_flat]
  simp
theorem prt_in {al : List Nat} {rs : Rw} {k : Nat} (h : k < rs.length) : prt al rs k = nbl (1 + pnum al rs k) (opt al k) := by
  unfold prt
  rw [num_pos h]
theorem prt_end {al : List Nat} {rs : Rw} : prt al rs rs.length = nbl 0 (opt al rs.length) := by
  unfold prt
  rw [num_end]
section
variable {P : Program} {w : World} {K : PySem.W.Frag} {mg : Str → Option Value} {base : Heap} {C_Cut : Addr} {C_Round : Addr}
/-! ### _law_numbers -/
def spNs : Sp := fun vs H Q _ => ∃ al v : List Nat, vs = [tx al, tx v] ∧ Alf al ∧ (∀ c ∈ v, c ∈ al) ∧ v.length ≤ 2000 ∧ RetL ((bnums al (cutW v)).map tx) H Q
theorem has_ns (F : At K mg "_law_numbers" s__law_numbers) (T : Top K mg C_Cut C_Round) (h1 : Has P w K mg base "_law_cut" s__law_cut ["word"] 1 spLc) (h2 : Has P w K mg base "_law_number" s__law_number ["value", "many"] 2 spLn) : Has P w K mg base "_law_numbers" s__law_numbers ["signs", "word"] 3 spNs := by
  obtain ⟨f, fd, F, m⟩ := F.ex
  obtain ⟨f1, fd1, _, G__law_cut, b__law_cut, m__law_cut, k__law_cut⟩ := h1
  obtain ⟨f2, fd2, _, G__law_number, b__law_number, m__law_number, k__law_number⟩ := h2
  refine ⟨f, fd, F, F.ok S__law_numbers (fun vs H Q E h => ?_) (fun cdv A outer s H vs Q E hr h => ?_), F.binds fun _ _ _ _ _ _ us hl => match us, hl with | [_, _], _ => rfl, m, F.kp⟩
  · obtain ⟨al, v, rfl, _⟩ := h
    rfl
  obtain ⟨al, v, rfl, hA, hv, hz, q⟩ := h
  refine ⟨_, (pss_cons
    (ps_set (i := 2) S__law_numbers.nd rfl (Or.inl rfl) (pe_call G__law_cut (hr.mono (by decide)) rfl m__law_cut k__law_cut b__law_cut .nil pass0 (pa_cons (pv 1) pa_nil)))
    (pss_cons
    (ps_set (i := 3) S__law_numbers.nd rfl (Or.inl rfl) (pe_ix (r := rIxL K) ix_list (pv 2) pe_int (fun _ _ => rfl)))
    (pss_cons
    (ps_setLc (i := 4) (own := [("letter", 8)]) (g := gName 8) (tt := tYes) rfl S__law_numbers.nd rfl (rfl) (sw_true rfl rfl rfl (by decide +kernel)) (pi_str (pv 0)) (blkOk_by (N := N__law_numbers) (sc := defScope s__law_numbers) (by decide +kernel)) (fun _ _ _ _ _ => pg_name (i := 8) S__law_numbers.nd rfl (Or.inl rfl)) (fun _ _ _ _ _ => pts_nil) (fun _ _ _ _ _ => (pe_tup (pa_cons pe_int (pa_cons (pv 8) pa_nil)))))
    (pss_cons
    (ps_set (i := 5) S__law_numbers.nd rfl (Or.inl rfl) (pe_lst pa_nil))
    (pss_cons
    (ps_for PassesOwn.never rfl (pi_range1 rfl T.z_range (pa_cons (pe_callB call_len_seq rfl T.z_len PySem.boot_len (pa_cons (pv 3) pa_nil)) pa_nil)) (pg_name (i := 6) S__law_numbers.nd rfl (Or.inr rfl)) (pss_cons
    (ps_set (i := 7) S__law_numbers.nd rfl (Or.inl rfl) (pe_bm PySem.F.plainAttrs_list PySem.F.slot_list_index PySem.F.type_list_index (mt_indexD (hu65 hr)) (pv 4) (pa_cons (pe_ix (r := rIxT K) ix_tup (pv 3) (pv 6) (fun _ _ => rfl)) pa_nil)))
    (pss_cons
    (ps_expr (pe_bm PySem.F.plainAttrs_list PySem.F.slot_list_append PySem.F.type_list_append mt_append (pv 5) (pa_cons (pe_call G__law_number (hr.mono (by decide)) rfl m__law_number k__law_number b__law_number .nil pass0 (pa_cons (pe_op op_add pe_int (pv 7)) (pa_cons (pe_op op_add (pe_callB call_len_seq rfl T.z_len PySem.boot_len (pa_cons (pv 4) pa_nil)) pe_int) pa_nil))) pa_nil)))
    (pss_one
    (ps_set (i := 4) S__law_numbers.nd rfl (Or.inl rfl) (pe_op op_cat (pe_op op_cat (pe_slice sl_list (pv 4) po_none (po_some (pv 7))) (pe_slice sl_list (pv 4) (po_some (pe_op op_add (pv 7) pe_int)) po_none)) (pe_lc (own := [("letter", 8)]) (g := gName 8) (tt := tYes) rfl S__law_numbers.nd (pi_str (pv 0)) (blkOk_by (N := N__law_numbers) (sc := defScope s__law_numbers) (by decide +kernel)) (fun _ _ _ _ _ => pg_name (i := 8) S__law_numbers.nd rfl (Or.inl rfl)) (fun _ _ _ _ _ => pts_nil) (fun _ _ _ _ _ => (pe_tup (pa_cons (pe_op op_add (pv 6) pe_int) (pa_cons (pv 8) pa_nil)))))))))))
    (pss_cons
    (ps_expr (pe_bm PySem.F.plainAttrs_list PySem.F.slot_list_append PySem.F.type_list_append mt_append (pv 5) (pa_cons (pe_call G__law_number (hr.mono (by decide)) rfl m__law_number k__law_number b__law_number .nil pass0 (pa_cons pe_int (pa_cons (pe_op op_add (pe_callB call_len_seq rfl T.z_len PySem.boot_len (pa_cons (pv 4) pa_nil)) pe_int) pa_nil))) pa_nil)))
    (pss_cons
    (ps_expr (pe_bm PySem.F.plainAttrs_list PySem.F.slot_list_append PySem.F.type_list_append mt_append (pv 5) (pa_cons (pe_call G__law_number (hr.mono (by decide)) rfl m__law_number k__law_number b__law_number .nil pass0 (pa_cons (pe_ix (r := rIxL K) ix_list (pv 2) pe_int (fun _ _ => rfl)) (pa_cons (pe_op op_add (pe_callB call_len_seq rfl T.z_len PySem.boot_len (pa_cons (pv 3) pa_nil)) pe_int) pa_nil))) pa_nil)))
    (pss_one
    (ps_ret (pv 5)))))))))), ?_⟩
  have h6 := hA.six
  have hp1 := hA.pos
  refine q_callD (vs := [tx v]) (dvs := []) (ea_cons (ev_var rfl) ea_nil) fun H1 e1 => ⟨al, v, rfl, hv, by omega, fun p H2 hp e2 hc => ?_⟩
  obtain ⟨ra, pa, xs, c1, c2, c3, c4⟩ := hc.ex
  have ko := cut_ok (al := al) v hv
  have few : (cutW v).1.length ≤ v.length := ko.few
  have low : (cutW v).2 ≤ (cutW v).1.length := ko.low
  have ok : RowsOk al (cutW v).1 := ko.ok
  generalize cutW v = st at *
  obtain ⟨rs, t⟩ := st
  dsimp only at ok low few c1 c3 c4 q
  have e12 := e1.trans e2
  refine q_asg (v := .ref ra) (ev_op (ev_var rfl) ev_c (rv_ixL (sq_of c1) (atI_nat (j := 0) rfl))) fun H3 e3 => ?_
  refine q_asgX (run_lcPairs (n := 0) (ev_var rfl) (by omega) (fun a => rfl) (fun a H4 e4 => ev_c) (fun a => rfl) fun fl ys H4 hfl e4 g4 r4 => ?_)
  refine q_asgL (xs := []) (el_lst ea_nil (by decide)) fun fo H5 hfo e5 g5 => ?_
  have e25 := (e3.trans e4).trans e5
  have e05 := e12.trans e25
  have hfo0 : H fo = none := fresh_back ((e12.trans e3).trans e4) hfo
  have n5 : fl ≠ fo := fun z => by
    subst z
    rw [hfo] at g4
    cases g4
  have hu : ∀ {F : Rw} {L : Rw} {k : Nat}, Fre al L k F → ∀ r ∈ F, r.2 < 1114112 := fun hF r hr => hA.uni ((hF.mem r).mp hr).1.2
  have okk : ∀ k, ∀ r ∈ rs.take k, r.1 ≤ k ∧ r.2 ∈ al := fun k r hr => by
    have := mem_row (ok.take k) hr
    rw [List.length_take] at this
    exact ⟨by omega, this.2⟩
  have flen : ∀ {k : Nat} {F : Rw}, k ≤ rs.length → Fre al (rs.take k) k F → F.length + 1 = opt al k := fun {k F} hk hF => by
    have h := fre_len hA.asc hF (okk k) (ok.take k).nd
    rw [List.length_take, Nat.min_eq_left hk] at h
    unfold opt
    omega
  refine q_forR1 (n := ((xs.length : Nat) : Int)) (ea_cons (ev_cb (ea_cons (ev_var rfl) ea_nil) (rc_lenT (st_of (e25 _ _ c2)))) ea_nil) (by rw [c3.len]; omega) (fun k σ' H' => Ex H H' ∧ Ex H2 H' ∧ (∃ fl u6 u7 u8, σ' = [some (tx al), some (tx v), some (.ref p), some (.ref ra), some (.ref fl), some (.ref fo), u6, u7, u8] ∧ fl ≠ fo ∧ ∃ ys F, H' fl = some (.lst ys) ∧ RowsAt H' ys F ∧ Fre al (rs.take k) k F) ∧
      H' fo = some (.lst (((List.range k).map (prt al rs)).map tx))) ?_ ?_ ?_
  · intro H6 e6
    exact ⟨e05.trans e6, e25.trans e6, ⟨fl, none, none, none, rfl, n5, ys, _, e6 _ _ (e5 _ _ g4), r4.mono (e5.trans e6), fre_zero hA.asc⟩, e6 _ _ g5⟩
  · intro k σ' H' hk z
    rw [c3.len] at hk
    have hk : k < rs.length := by omega
    obtain ⟨e6, e26, ⟨fl, u6, u7, u8, rfl, nf, ys, F, g1, r1, hF⟩, g2⟩ := z
    obtain ⟨hin, hidx⟩ := fre_idx hA.asc ok hk hF
    have hFl := flen (by omega) hF
    have hopt := opt_le h6 (show k ≤ 20100 by omega)
    obtain ⟨r, x1, x2⟩ := c3.row k _ _ (rowAt_get hk)
    refine q_asg (v := .int (pnum al rs k : Int)) (ev_is (ev_lidx (q := rowAt rs k) (ev_var rfl) (ev_op (ev_var rfl) (ev_var rfl) (rv_ixT (st_of (e26 _ _ c2)) (atI_nat x1))) g1 r1 (e26 _ _ x2) hin (hu hF)) (by rw [hidx])) fun H7 e7 => ?_
    have hys := r1.len
    have hol : (((List.range k).map (prt al rs)).map tx).length = k := by rw [List.length_map, List.length_map, List.length_range]
    have hnl := pnum_lt hA.asc hp1 ok hk
    refine q_app (e7 _ _ g2) (v := tx (prt al rs k)) (ev_var rfl) (ev_is (ev_call (ea_cons (ev_is (w := .int ((1 + pnum al rs k : Nat) : Int)) (ev_add ev_c (ev_var rfl)) (by rw [Int.natCast_add]; rfl)) (ea_cons (ev_is (w := .int ((opt al k : Nat) : Int)) (ev_add (ev_cb (ea_cons (ev_var rfl) ea_nil) (rc_lenL (sq_of (e7 _ _ g1)))) ev_c) (by rw [hys, ← hFl]; rfl)) ea_nil)) (sv_ln hnl hopt)) (by rw [prt_in hk])) (by rw [hol]; omega) fun H8 e8 => ?_
    have e78 := e7.trans e8
    have k1 : (L2.upd H8 fo (.lst (((List.range k).map (prt al rs)).map tx ++ [tx (prt al rs k)]))) fl = some (.lst ys) := by
      rw [upd_ne nf]
      exact e78 _ _ g1
    have kr : RowsAt (L2.upd H8 fo (.lst (((List.range k).map (prt al rs)).map tx ++ [tx (prt al rs k)]))) ys F := (r1.mono e78).upd (e78 _ _ g2) fun ys => by
      intro z
      cases z
    have k2 : (L2.upd H8 fo (.lst (((List.range k).map (prt al rs)).map tx ++ [tx (prt al rs k)]))) fo = some (.lst (((List.range (k + 1)).map (prt al rs)).map tx)) := by
      rw [upd_same, List.range_succ, List.map_append, List.map_append]
      rfl
    have k3 : Ex H (L2.upd H8 fo (.lst (((List.range k).map (prt al rs)).map tx ++ [tx (prt al rs k)]))) := (e6.trans e78).mut hfo0
    have hfo2 : H2 fo = none := fresh_back (e3.trans e4) hfo
    have k4 : Ex H2 (L2.upd H8 fo (.lst (((List.range k).map (prt al rs)).map tx ++ [tx (prt al rs k)]))) := (e26.trans e78).mut hfo2
    generalize L2.upd H8 fo (.lst (((List.range k).map (prt al rs)).map tx ++ [tx (prt al rs k)])) = G at k1 kr k2 k3 k4 ⊢
    have hpn : pnum al rs k < F.length := by omega
    have s1 : ∀ {σ : L2.St} {H1 : Hp}, σ[4]? = some (some (.ref fl)) → σ[7]? = some (some (.int (pnum al rs k : Int))) → Ex G H1 → EvL (tSl (rSlL K) (tVar 4) tNoPart (tPart (tVar 7))) σ H1 (ys.take (pnum al rs k)) := fun h4 h7 e => by
      have g := el_sl (K := K) (tl := tNoPart) (th := tPart (tVar 7)) (lo := none) (hi := some ((pnum al rs k : Nat) : Int)) (ev_var h4) eo_none (eo_some (ev_var h7)) (sq_of (e _ _ k1))
      rw [cutV_to'] at g
      exact g
    have s2 : ∀ {σ : L2.St} {H1 : Hp}, σ[4]? = some (some (.ref fl)) → σ[7]? = some (some (.int (pnum al rs k : Int))) → Ex G H1 → EvL (tSl (rSlL K) (tVar 4) (tPart (tOp (rI0 fun i j => .int (i + j)) (tVar 7) (tC (.int 1)))) tNoPart) σ H1 (ys.drop (pnum al rs k + 1)) := fun h4 h7 e => by
      have g := el_sl (K := K) (tl := tPart (tOp (rI0 fun i j => .int (i + j)) (tVar 7) (tC (.int 1)))) (th := tNoPart) (lo := some ((pnum al rs k + 1 : Nat) : Int)) (hi := none) (ev_var h4) (eo_some (ev_is (ev_add (ev_var h7) ev_c) (by rw [Int.natCast_add]; rfl))) eo_none (sq_of (e _ _ k1))
      rw [cutV_from] at g
      exact g
    have hz1 : (ys.take (pnum al rs k)).length + (ys.drop (pnum al rs k + 1)).length ≤ F.length := by
      rw [List.length_take, List.length_drop]
      omega
    have hFz : F.length ≤ 12100 := by
      have : opt al k ≤ 12101 := by
        unfold opt
        have : (k + 1) * al.length ≤ (k + 1) * 6 := Nat.mul_le_mul_left _ h6
        omega
      omega
    refine s_asgY ?_
    refine (el_catL (s1 rfl rfl (Ex.refl G)) (s2 rfl rfl (Ex.refl G)) (by omega)) G (Ex.refl G) _ fun l1 G1 hl1 x1' g1' => ?_
    refine run_lcPairs (n := k + 1) (ev_var rfl) (by omega) (fun a => rfl) (fun a H4 e4 => ev_is (ev_add (ev_var rfl) ev_c) (by rw [Int.natCast_add]; rfl)) (fun a => rfl) fun l2 ys2 G2 hl2 x2' g2' r2' => ?_
    have hl2l := r2'.len
    rw [List.length_map] at hl2l
    refine ⟨l1, l2, _, _, rfl, rfl, x2' _ _ g1', g2', sz_of (by rw [List.length_append]; omega), fun l3 hl3 => ?_⟩
    have x12 := x1'.trans x2'
    have hl3G : G l3 = none := fresh_back x12 hl3
    have nl3 : l3 ≠ fo := fun z => by
      rw [z, k2] at hl3G
      cases hl3G
    refine ⟨(k3.trans x12).trans (Ex.new hl3), (k4.trans x12).trans (Ex.new hl3), ⟨l3, some (.int (k : Int)), some (.int (pnum al rs k : Int)), _, rfl, nl3, _, _, upd_same, ?_, fre_step hA.asc ok hk hF⟩, ?_⟩
    · rw [hidx]
      exact ((((kr.take _).app (kr.drop _)).mono x12).app r2').mono (Ex.new hl3)
    · exact (Ex.new hl3) _ _ (x12 _ _ k2)
  · intro σ' H' z
    rw [Int.toNat_natCast, c3.len] at z
    obtain ⟨e6, e26, ⟨fl, u6, u7, u8, rfl, nf, ys, F, g1, r1, hF⟩, g2⟩ := z
    have hFl := flen (Nat.le_refl _) hF
    have hys := r1.len
    have hopt := opt_le h6 (show rs.length ≤ 20100 by omega)
    have ho2 := opt_two hp1 rs.length
    have hol : (((List.range rs.length).map (prt al rs)).map tx).length = rs.length := by rw [List.length_map, List.length_map, List.length_range]
    have hfo2 : H2 fo = none := fresh_back (e3.trans e4) hfo
    refine q_app g2 (v := tx (prt al rs rs.length)) (ev_var rfl) (ev_is (ev_call (ea_cons (ev_c (v := .int ((0 : Nat) : Int))) (ea_cons (ev_is (w := .int ((opt al rs.length : Nat) : Int)) (ev_add (ev_cb (ea_cons (ev_var rfl) ea_nil) (rc_lenL (sq_of g1))) ev_c) (by rw [hys, ← hFl]; rfl)) ea_nil)) (sv_ln (n := 0) (by omega) hopt)) (by rw [prt_end])) (by rw [hol]; omega) fun H7 e7 => ?_
    have k2 : (L2.upd H7 fo (.lst (((List.range rs.length).map (prt al rs)).map tx ++ [tx (prt al rs rs.length)]))) fo = some (.lst (((List.range (rs.length + 1)).map (prt al rs)).map tx)) := by
      rw [upd_same, List.range_succ, List.map_append, List.map_append]
      rfl
    have k3 : Ex H (L2.upd H7 fo (.lst (((List.range rs.length).map (prt al rs)).map tx ++ [tx (prt al rs rs.length)]))) := (e6.trans e7).mut hfo0
    have k4 : Ex H2 (L2.upd H7 fo (.lst (((List.range rs.length).map (prt al rs)).map tx ++ [tx (prt al rs rs.length)]))) := (e26.trans e7).mut hfo2
    generalize L2.upd H7 fo (.lst (((List.range rs.length).map (prt al rs)).map tx ++ [tx (prt al rs rs.length)])) = G at k2 k3 k4 ⊢
    have hol2 : (((List.range (rs.length + 1)).map (prt al rs)).map tx).length = rs.length + 1 := by rw [List.length_map, List.length_map, List.length_range]
    refine q_app k2 (v := tx (nbl t (rs.length + 1))) (ev_var rfl) (ev_call (ea_cons (ev_op (ev_var rfl) ev_c (rv_ixL (sq_of (k4 _ _ c1)) (atI_nat (j := 1) rfl))) (ea_cons (ev_is (w := .int ((rs.length + 1 : Nat) : Int)) (ev_add (ev_cb (ea_cons (ev_var rfl) ea_nil) (rc_lenT (st_of (k4 _ _ c2)))) ev_c) (by rw [c3.len]; rfl)) ea_nil)) (sv_ln (n := t) (by omega) (by omega))) (by rw [hol2]; omega) fun H8 e8 => ?_
    refine s_ret (ev_var rfl) fun H9 e9 => q fo H9 hfo0 (((k3.trans e8).mut hfo0).trans e9) (e9 _ _ ?_)
    rw [upd_same]
    unfold bnums
    rw [List.map_append]
    rfl
end
end Ver
namespace Ver
open PySem PySem.Spec PyProof.Rows L2 Evl
def cl (L : Rw) (n : Nat) : List V := (List.range n).map fun p => V.int (ncnt L p : Int)
def sl (L : Rw) (n : Nat) : List V := (List.range n).map fun p => tx (nsis L p)
theorem rep_const (x : V) : ∀ n, (List.replicate n [x]).flatten = (List.range n).map fun _ => x
  | 0 => rfl
  | n + 1 => by
    rw [List.range_succ, List.map_append, ← rep_const x n, List.replicate_succ', List.flatten_append]
    simp
theorem cl_at {L : Rw} {n p : Nat} (h : p < n) : (cl L n)[p]? = some (V.int (ncnt L p : Int)) := by
  unfold cl
  rw [List.getElem?_map, List.getElem?_range h]
  rfl
theorem sl_at {L : Rw} {n p : Nat} (h : p < n) : (sl L n)[p]? = some (tx (nsis L p)) := by
  unfold sl
  rw [List.getElem?_map, List.getElem?_range h]
  rfl
theorem cl_len {L : Rw} {n : Nat} : (cl L n).length = n := by
  unfold cl
  rw [List.length_map, List.length_range]
theorem sl_len {L : Rw} {n : Nat} : (sl L n).length = n := by
  unfold sl
  rw [List.length_map, List.length_range]
theorem set_map {f g : Nat → V} {n p : Nat} (h : ∀ q, q < n → q ≠ p → f q = g q) : ((List.range n).map f).set p (g p) = (List.range n).map g := by
  refine List.ext_getElem (by simp) fun i h1 h2 => ?_
  rw [List.getElem_set]
  split
  · rename_i e
    subst e
    simp
  · rename_i e
    have hi : i < n := by simpa using h2
    simp
    exact h i hi fun z => e z.symm
theorem cl_set {L : Rw} {n : Nat} {r : Nat × Nat} : (cl L n).set r.1 (V.int (ncnt (L ++ [r]) r.1 : Int)) = cl (L ++ [r]) n := set_map (g := fun p => V.int (ncnt (L ++ [r]) p : Int)) fun q _ hn => by
  rw [ncnt_snoc, if_neg fun z => hn z.symm]
  rfl
theorem sl_set {L : Rw} {n : Nat} {r : Nat × Nat} : (sl L n).set r.1 (tx (nsis (L ++ [r]) r.1)) = sl (L ++ [r]) n := set_map (g := fun p => tx (nsis (L ++ [r]) p)) fun q _ hn => by
  rw [nsis_snoc, if_neg fun z => hn z.symm, List.append_nil]
theorem cl_take {L : Rw} {n p : Nat} (h : p ≤ n) : (cl L n).take p = (((List.range p).map (ncnt L)).map fun (k : Nat) => (k : Int)).map V.int := by
  unfold cl
  rw [← List.map_take, List.take_range, Nat.min_eq_left h, List.map_map, List.map_map]
  rfl
theorem sum_castN : ∀ l : List Nat, (l.map fun (k : Nat) => (k : Int)).sum = ((l.sum : Nat) : Int)
  | [] => rfl
  | a :: l => by
    rw [List.map_cons, List.sum_cons, List.sum_cons, sum_castN l, Int.natCast_add]
theorem nsis_len (L : Rw) (p : Nat) : (nsis L p).length ≤ L.length := by
  unfold nsis
  rw [List.length_map]
  exact List.length_filter_le ..
theorem one_lt {a b : Nat} : decide (([a] : List Nat) < [b]) = decide (a < b) := by
  refine decide_eq_decide.mpr ⟨fun h => ?_, fun h => List.Lex.rel h⟩
  cases h with
  | rel h => exact h
  | cons h => cases h
section
variable {P : Program} {w : World} {K : PySem.W.Frag} {mg : Str → Option Value} {base : Heap} {C_Cut : Addr} {C_Round : Addr}
theorem ev_lenNw {σ : L2.St} {H : Hp} {tl : TE} {xs : List V} (h : EvL tl σ H xs) : Ev (tCB (fun vs H Q => ∃ p ys, vs = [V.ref p] ∧ (SqL K H p ys ∨ SqT K H p ys) ∧ Q (V.int ys.length) H) (tCons tl tNil)) σ H (.int xs.length) := fun H1 e Q q =>
  h H1 e _ fun p H2 _ e2 g => ⟨p, xs, rfl, .inl (sq_of g), q H2 e2⟩
/-! ### _law_many_numbers -/
def spMn : Sp := fun vs H Q _ => ∃ al v : List Nat, vs = [tx al, tx v] ∧ Alf al ∧ (∀ c ∈ v, c ∈ al) ∧ v.length ≤ 20100 ∧ RetL ((bnums al (cutW v)).map tx) H Q
theorem has_mn (F : At K mg "_law_many_numbers" s__law_many_numbers) (T : Top K mg C_Cut C_Round) (h1 : Has P w K mg base "_law_cut" s__law_cut ["word"] 1 spLc) (h2 : Has P w K mg base "_law_number" s__law_number ["value", "many"] 2 spLn) : Has P w K mg base "_law_many_numbers" s__law_many_numbers ["signs", "word"] 3 spMn := by
  obtain ⟨f, fd, F, m⟩ := F.ex
  obtain ⟨f1, fd1, _, G__law_cut, b__law_cut, m__law_cut, k__law_cut⟩ := h1
  obtain ⟨f2, fd2, _, G__law_number, b__law_number, m__law_number, k__law_number⟩ := h2
  refine ⟨f, fd, F, F.ok S__law_many_numbers (fun vs H Q E h => ?_) (fun cdv A outer s H vs Q E hr h => ?_), F.binds fun _ _ _ _ _ _ us hl => match us, hl with | [_, _], _ => rfl, m, F.kp⟩
  · obtain ⟨al, v, rfl, _⟩ := h
    rfl
  obtain ⟨al, v, rfl, hA, hv, hz, q⟩ := h
  refine ⟨_, (pss_cons
    (ps_set (i := 2) S__law_many_numbers.nd rfl (Or.inl rfl) (pe_call G__law_cut (hr.mono (by decide)) rfl m__law_cut k__law_cut b__law_cut .nil pass0 (pa_cons (pv 1) pa_nil)))
    (pss_cons
    (ps_set (i := 3) S__law_many_numbers.nd rfl (Or.inl rfl) (pe_callB call_len_str rfl T.z_len PySem.boot_len (pa_cons (pv 0) pa_nil)))
    (pss_cons
    (ps_set (i := 4) S__law_many_numbers.nd rfl (Or.inl rfl) (pe_callB call_len_seq rfl T.z_len PySem.boot_len (pa_cons (pe_ix (r := rIxL K) ix_list (pv 2) pe_int (fun _ _ => rfl)) pa_nil)))
    (pss_cons
    (ps_set (i := 5) S__law_many_numbers.nd rfl (Or.inl rfl) (pe_op op_rep (pe_lst (pa_cons pe_int pa_nil)) (pe_op op_add (pv 4) pe_int)))
    (pss_cons
    (ps_set (i := 6) S__law_many_numbers.nd rfl (Or.inl rfl) (pe_op op_rep (pe_lst (pa_cons pe_str pa_nil)) (pe_op op_add (pv 4) pe_int)))
    (pss_cons
    (ps_set (i := 7) S__law_many_numbers.nd rfl (Or.inl rfl) (pe_lst pa_nil))
    (pss_cons
    (ps_for PassesOwn.never rfl (pi_range1 rfl T.z_range (pa_cons (pv 4) pa_nil)) (pg_name (i := 8) S__law_many_numbers.nd rfl (Or.inl rfl)) (pss_cons
    (ps_set (i := 9) S__law_many_numbers.nd rfl (Or.inl rfl) (pe_ix (r := rIxT K) ix_tup (pe_ix (r := rIxT K) ix_tup (pe_ix (r := rIxL K) ix_list (pv 2) pe_int (fun _ _ => rfl)) (pv 8) (fun _ _ => rfl)) pe_int (fun _ _ => rfl)))
    (pss_cons
    (ps_set (i := 10) S__law_many_numbers.nd rfl (Or.inr rfl) (pe_ix (r := rIxT K) ix_tup (pe_ix (r := rIxT K) ix_tup (pe_ix (r := rIxL K) ix_list (pv 2) pe_int (fun _ _ => rfl)) (pv 8) (fun _ _ => rfl)) pe_int (fun _ _ => rfl)))
    (pss_cons
    (ps_set (i := 11) S__law_many_numbers.nd rfl (Or.inl rfl) (pe_callB call_len_seq rfl T.z_len PySem.boot_len (pa_cons (pe_lc (own := [("sister", 13)]) (g := gName 13) (tt := _) rfl S__law_many_numbers.nd (pi_str (pe_ix (r := rIxL K) ix_list (pv 6) (pv 9) (fun _ _ => rfl))) (blkOk_by (N := N__law_many_numbers) (sc := defScope s__law_many_numbers) (by decide +kernel)) (fun _ _ _ _ _ => pg_name (i := 13) S__law_many_numbers.nd rfl (Or.inl rfl)) (fun _ _ _ _ _ => pts_one (pt_cmpR op_lt_str (pv 13) (pv 10) (nomark _))) (fun _ _ _ _ _ => (pv 13))) pa_nil)))
    (pss_cons
    (ps_set (i := 12) S__law_many_numbers.nd rfl (Or.inl rfl) (pe_op op_sub (pe_op op_sub (pe_op op_add (pe_op op_mul (pv 9) (pv 3)) (pe_bm PySem.F.plainAttrs_str PySem.F.slot_str_index PySem.F.type_str_index mt_sindex (pv 0) (pa_cons (pv 10) pa_nil))) (pe_callB (cr_sum rfl) rfl T.z_sum (by decide +kernel) (pa_cons (pe_slice sl_list (pv 5) po_none (po_some (pv 9))) pa_nil))) (pv 11)))
    (pss_cons
    (ps_expr (pe_bm PySem.F.plainAttrs_list PySem.F.slot_list_append PySem.F.type_list_append mt_append (pv 7) (pa_cons (pe_call G__law_number (hr.mono (by decide)) rfl m__law_number k__law_number b__law_number .nil pass0 (pa_cons (pe_op op_add pe_int (pv 12)) (pa_cons (pe_op op_add (pe_op op_sub (pe_op op_mul (pe_op op_add (pv 8) pe_int) (pv 3)) (pv 8)) pe_int) pa_nil))) pa_nil)))
    (pss_cons
    (ps_asg (pe_op op_add (pe_ix (r := rIxL K) ix_list (pv 5) (pv 9) (fun _ _ => rfl)) pe_int) (pg_sub (pv 5) (pv 9) set_list))
    (pss_one
    (ps_asg (pe_op op_add_str (pe_ix (r := rIxL K) ix_list (pv 6) (pv 9) (fun _ _ => rfl)) (pv 10)) (pg_sub (pv 6) (pv 9) set_list))))))))))
    (pss_one
    (ps_ret (pe_op op_cat (pv 7) (pe_lst (pa_cons (pe_call G__law_number (hr.mono (by decide)) rfl m__law_number k__law_number b__law_number .nil pass0 (pa_cons pe_int (pa_cons (pe_op op_add (pe_op op_sub (pe_op op_mul (pe_op op_add (pv 4) pe_int) (pv 3)) (pv 4)) pe_int) pa_nil))) (pa_cons (pe_call G__law_number (hr.mono (by decide)) rfl m__law_number k__law_number b__law_number .nil pass0 (pa_cons (pe_ix (r := rIxL K) ix_list (pv 2) pe_int (fun _ _ => rfl)) (pa_cons (pe_op op_add (pv 4) pe_int) pa_nil))) pa_nil))))))))))))), ?_⟩
  have h6 := hA.six
  have hp1 := hA.pos
  refine q_callD (vs := [tx v]) (dvs := []) (ea_cons (ev_var rfl) ea_nil) fun H1 e1 => ⟨al, v, rfl, hv, by omega, fun p H2 hp e2 hc => ?_⟩
  obtain ⟨ra, pa, xs, c1, c2, c3, c4⟩ := hc.ex
  have ko := cut_ok (al := al) v hv
  have few : (cutW v).1.length ≤ v.length := ko.few
  have low : (cutW v).2 ≤ (cutW v).1.length := ko.low
  have ok : RowsOk al (cutW v).1 := ko.ok
  generalize cutW v = st at *
  obtain ⟨rs, t⟩ := st
  dsimp only at ok low few c1 c3 c4 q
  have e12 := e1.trans e2
  have made0 : ∀ {σ : L2.St} {H' : Hp}, Ex H2 H' → σ[2]? = some (some (.ref p)) → Ev (tOp (rIxL K) (tVar 2) (tC (.int 0))) σ H' (.ref ra) := fun e hs => ev_op (ev_var hs) ev_c (rv_ixL (sq_of (e _ _ c1)) (atI_nat (j := 0) rfl))
  have made1 : ∀ {σ : L2.St} {H' : Hp}, Ex H2 H' → σ[2]? = some (some (.ref p)) → Ev (tOp (rIxL K) (tVar 2) (tC (.int 1))) σ H' (.int (t : Int)) := fun e hs => ev_op (ev_var hs) ev_c (rv_ixL (sq_of (e _ _ c1)) (atI_nat (j := 1) rfl))
  refine q_asg (v := .int (al.length : Int)) (ev_lenS (by omega) (ev_var rfl)) fun H3 e3 => ?_
  refine q_asg (v := .int (rs.length : Int)) (ev_is (ev_cb (ea_cons (made0 e3 rfl) ea_nil) (rc_lenT (st_of (e3 _ _ c2)))) (by rw [c3.len])) fun H4 e4 => ?_
  refine q_asgL (el_rep (n := rs.length + 1) (el_lst (ea_cons ev_c ea_nil) (by show 1 ≤ 100000; decide)) (fun _ _ => ev_is (ev_add (ev_var rfl) ev_c) (by rw [Int.natCast_add]; rfl)) (by show 1 * _ ≤ _; omega) (by omega)) fun cs H5 hcs e5 g5 => ?_
  have e35 := (e3.trans e4).trans e5
  refine q_asgL (el_rep (n := rs.length + 1) (el_lst (ea_cons (ev_is ev_c (by rw [mt_is])) ea_nil) (by show 1 ≤ 100000; decide)) (fun _ _ => ev_is (ev_add (ev_var rfl) ev_c) (by rw [Int.natCast_add]; rfl)) (by show 1 * _ ≤ _; omega) (by omega)) fun si H6 hsi e6 g6 => ?_
  refine q_asgL (xs := []) (el_lst ea_nil (by decide)) fun fo H7 hfo e7 g7 => ?_
  have e36 := e35.trans e6
  have e37 := e36.trans e7
  have ncs2 : H2 cs = none := fresh_back (e3.trans e4) hcs
  have nsi2 : H2 si = none := fresh_back e35 hsi
  have nfo2 : H2 fo = none := fresh_back e36 hfo
  have b0 : ∀ {x : Addr}, H2 x = none → H x = none := fun h => fresh_back e12 h
  have n1 : cs ≠ si := ne_of_none g5 hsi
  have n2 : cs ≠ fo := ne_of_none (e6 _ _ g5) hfo
  have n3 : si ≠ fo := ne_of_none g6 hfo
  rw [rep_const] at g5 g6
  refine q_forR1 (n := (rs.length : Int)) (ea_cons (ev_var rfl) ea_nil) (by omega) (fun k σ' H' => Ex H H' ∧ Ex H2 H' ∧ (∃ u8 u9 u10 u11 u12 u13, σ' = [some (tx al), some (tx v), some (.ref p), some (.int (al.length : Int)), some (.int (rs.length : Int)), some (.ref cs), some (.ref si), some (.ref fo), u8, u9, u10, u11, u12, u13]) ∧
      H' cs = some (.lst (cl (rs.take k) (rs.length + 1))) ∧ H' si = some (.lst (sl (rs.take k) (rs.length + 1))) ∧ H' fo = some (.lst (((List.range k).map (prt al rs)).map tx))) ?_ ?_ ?_
  · intro H8 e8
    exact ⟨(e12.trans e37).trans e8, e37.trans e8, ⟨none, none, none, none, none, none, rfl⟩, e8 _ _ (e7 _ _ (e6 _ _ g5)), e8 _ _ (e7 _ _ g6), e8 _ _ g7⟩
  · intro k σ' H' hk z
    have hk : k < rs.length := by omega
    obtain ⟨e8, e28, ⟨u8, u9, u10, u11, u12, u13, rfl⟩, g1, g2, g3⟩ := z
    obtain ⟨r, x1, x2⟩ := c3.row k _ _ (rowAt_get hk)
    obtain ⟨hrl, hrm⟩ := row_ok ok hk
    have hpm := place_many hA.asc ok hk
    have hnl := pnum_lt hA.asc hp1 ok hk
    have hopt := opt_le h6 (show k ≤ 20100 by omega)
    have hprt := prt_in (al := al) hk
    have htk : rs.take (k + 1) = rs.take k ++ [rowAt rs k] := by
      rw [List.take_add_one, rowAt_get hk]
      rfl
    have hsl := nsis_len (rs.take k) (rowAt rs k).1
    rw [List.length_take] at hsl
    have hin : al[al.idxOf (rowAt rs k).2]? = some (rowAt rs k).2 := by
      have h1 := List.idxOf_lt_length_of_mem hrm
      rw [List.getElem?_eq_getElem h1, List.getElem_idxOf h1]
    have hplc := plc_lt (p := (rowAt rs k).1) hrm hrl
    have cset := cl_set (L := rs.take k) (n := rs.length + 1) (r := rowAt rs k)
    have sset := sl_set (L := rs.take k) (n := rs.length + 1) (r := rowAt rs k)
    have csn := ncnt_snoc (rs.take k) (rowAt rs k) (rowAt rs k).1
    have ssn := nsis_snoc (rs.take k) (rowAt rs k) (rowAt rs k).1
    rw [if_pos rfl] at csn ssn
    rw [← htk] at cset sset csn ssn
    have x2 : H2 r = some (.tup [.int ((rowAt rs k).1 : Int), tx [(rowAt rs k).2]]) := x2
    have optc : ((k : Int) + 1) * (al.length : Int) - (k : Int) + 1 = (opt al k : Int) := by
      have e : ((k : Int) + 1) * (al.length : Int) = (((k + 1) * al.length : Nat) : Int) := by
        rw [Int.natCast_mul]
        rfl
      have h : (k + 1) * 1 ≤ (k + 1) * al.length := Nat.mul_le_mul_left _ hp1
      unfold opt
      rw [e]
      omega
    generalize rowAt rs k = rw at *
    obtain ⟨pp, cc⟩ := rw
    dsimp only at x2 hrl hrm hpm hsl hin hplc cset sset csn ssn
    have hp2 : pp < rs.length + 1 := by omega
    refine q_asg (v := .int (pp : Int)) (ev_op (ev_op (made0 e28 rfl) (ev_var rfl) (rv_ixT (st_of (e28 _ _ c2)) (atI_nat x1))) ev_c (rv_ixT (st_of (e28 _ _ x2)) (atI_nat (j := 0) rfl))) fun H9 e9 => ?_
    refine q_asg (v := tx [cc]) (ev_op (ev_op (made0 (e28.trans e9) rfl) (ev_var rfl) (rv_ixT (st_of ((e28.trans e9) _ _ c2)) (atI_nat x1))) ev_c (rv_ixT (st_of ((e28.trans e9) _ _ x2)) (atI_nat (j := 1) rfl))) fun H10 e10 => ?_
    have e910 := e9.trans e10
    refine q_asg (v := .int (((nsis (rs.take k) pp).filter fun d => decide (d < cc)).length : Int)) (ev_is (ev_lenNw (el_lcSF (x := nsis (rs.take k) pp) (fun d => decide (d < cc)) (fun d => tx [d]) (ev_op (ev_var rfl) (ev_var rfl) (rv_ixL (sq_of (e910 _ _ g2)) (atI_nat (sl_at hp2)))) (by omega) (fun a => rfl) (fun i c H1 e hc => et_is (et_test (ev_op (ev_var rfl) (ev_var rfl) rv_ltS)) one_lt) (fun i c H1 e hc => ev_var rfl))) (by rw [List.length_map])) fun H11 e11 => ?_
    have e911 := e910.trans e11
    have sum1 : Ev (tCB (fun vs H Q => ∃ (a : Addr) (ns : List Int), vs = [V.ref a] ∧ SqL K H a (ns.map V.int) ∧ Q (V.int ns.sum) H) (tCons (tSl (rSlL K) (tVar 5) tNoPart (tPart (tVar 9))) tNil)) [some (tx al), some (tx v), some (.ref p), some (.int (al.length : Int)), some (.int (rs.length : Int)), some (.ref cs), some (.ref si), some (.ref fo), some (.int (k : Int)), some (.int (pp : Int)), some (tx [cc]), some (.int (((nsis (rs.take k) pp).filter fun d => decide (d < cc)).length : Int)), u12, u13] H11 (.int ((((List.range pp).map (ncnt (rs.take k))).sum : Nat) : Int)) := by
      have g := el_sl (K := K) (σ := [some (tx al), some (tx v), some (.ref p), some (.int (al.length : Int)), some (.int (rs.length : Int)), some (.ref cs), some (.ref si), some (.ref fo), some (.int (k : Int)), some (.int (pp : Int)), some (tx [cc]), some (.int (((nsis (rs.take k) pp).filter fun d => decide (d < cc)).length : Int)), u12, u13]) (H := H11) (te := tVar 5) (tl := tNoPart) (th := tPart (tVar 9)) (lo := none) (hi := some ((pp : Nat) : Int)) (ev_var rfl) eo_none (eo_some (ev_var rfl)) (sq_of (e911 _ _ g1))
      rw [cutV_to', cl_take (by omega)] at g
      have g2 := ev_sumN (K := K) g
      rw [sum_castN] at g2
      exact g2
    refine q_asg (v := .int (pnum al rs k : Int)) (ev_is (ev_sub (ev_sub (ev_add (ev_mulR (by omega) (by omega) (ev_var rfl) (ev_var rfl)) (ev_sidx hA.nd hin (ev_var rfl) (ev_var rfl))) sum1) (ev_var rfl)) (by
      congr 1
      have e : (pp : Int) * (al.length : Int) = ((pp * al.length : Nat) : Int) := (Int.natCast_mul _ _).symm
      rw [e]
      omega)) fun H12 e12' => ?_
    have e912 := e911.trans e12'
    have hol : (((List.range k).map (prt al rs)).map tx).length = k := by rw [List.length_map, List.length_map, List.length_range]
    refine q_app (e912 _ _ g3) (v := tx (prt al rs k)) (ev_var rfl) (ev_is (ev_call (ea_cons (ev_is (w := .int ((1 + pnum al rs k : Nat) : Int)) (ev_add ev_c (ev_var rfl)) (by rw [Int.natCast_add]; rfl)) (ea_cons (ev_is (w := .int ((opt al k : Nat) : Int)) (ev_add (ev_sub (ev_mulR (i := (k : Int) + 1) (by omega) (by omega) (ev_add (ev_var rfl) ev_c) (ev_var rfl)) (ev_var rfl)) ev_c) (by rw [optc])) ea_nil)) (sv_ln hnl hopt)) (by rw [hprt])) (by rw [hol]; omega) fun H13 e13 => ?_
    have e913 := e912.trans e13
    have k1 : (L2.upd H13 fo (.lst (((List.range k).map (prt al rs)).map tx ++ [tx (prt al rs k)]))) cs = some (.lst (cl (rs.take k) (rs.length + 1))) := by
      rw [upd_ne n2]
      exact e913 _ _ g1
    have k2 : (L2.upd H13 fo (.lst (((List.range k).map (prt al rs)).map tx ++ [tx (prt al rs k)]))) si = some (.lst (sl (rs.take k) (rs.length + 1))) := by
      rw [upd_ne n3]
      exact e913 _ _ g2
    have k3 : (L2.upd H13 fo (.lst (((List.range k).map (prt al rs)).map tx ++ [tx (prt al rs k)]))) fo = some (.lst (((List.range (k + 1)).map (prt al rs)).map tx)) := by
      rw [upd_same, List.range_succ, List.map_append, List.map_append]
      rfl
    have k4 : Ex H2 (L2.upd H13 fo (.lst (((List.range k).map (prt al rs)).map tx ++ [tx (prt al rs k)]))) := (e28.trans e913).mut nfo2
    have k5 : Ex H (L2.upd H13 fo (.lst (((List.range k).map (prt al rs)).map tx ++ [tx (prt al rs k)]))) := (e8.trans e913).mut (b0 nfo2)
    generalize L2.upd H13 fo (.lst (((List.range k).map (prt al rs)).map tx ++ [tx (prt al rs k)])) = G at k1 k2 k3 k4 k5 ⊢
    refine q_setL (j := pp) k1 (v := .int (ncnt (rs.take (k + 1)) pp : Int)) (ev_is (ev_add (ev_op (ev_var rfl) (ev_var rfl) (rv_ixL (sq_of k1) (atI_nat (cl_at hp2)))) ev_c) (by rw [csn, Int.natCast_add]; rfl)) (ev_var rfl) (ev_var rfl) (by rw [cl_len]; exact hp2) fun G1 x1' => ?_
    rw [cset]
    have m1 : (L2.upd G1 cs (.lst (cl (rs.take (k + 1)) (rs.length + 1)))) cs = some (.lst (cl (rs.take (k + 1)) (rs.length + 1))) := upd_same
    have m2 : (L2.upd G1 cs (.lst (cl (rs.take (k + 1)) (rs.length + 1)))) si = some (.lst (sl (rs.take k) (rs.length + 1))) := by
      rw [upd_ne n1.symm]
      exact x1' _ _ k2
    have m3 : (L2.upd G1 cs (.lst (cl (rs.take (k + 1)) (rs.length + 1)))) fo = some (.lst (((List.range (k + 1)).map (prt al rs)).map tx)) := by
      rw [upd_ne n2.symm]
      exact x1' _ _ k3
    have m4 : Ex H2 (L2.upd G1 cs (.lst (cl (rs.take (k + 1)) (rs.length + 1)))) := (k4.trans x1').mut ncs2
    have m5 : Ex H (L2.upd G1 cs (.lst (cl (rs.take (k + 1)) (rs.length + 1)))) := (k5.trans x1').mut (b0 ncs2)
    generalize L2.upd G1 cs (.lst (cl (rs.take (k + 1)) (rs.length + 1))) = G2 at m1 m2 m3 m4 m5 ⊢
    refine s_setL (j := pp) m2 (v := tx (nsis (rs.take (k + 1)) pp)) (ev_is (ev_catS (b := [cc]) (by show _ + 1 ≤ _; omega) (ev_op (ev_var rfl) (ev_var rfl) (rv_ixL (sq_of m2) (atI_nat (sl_at hp2)))) (ev_var rfl)) (by rw [ssn])) (ev_var rfl) (ev_var rfl) (by rw [sl_len]; exact hp2) fun G3 x3 => ?_
    rw [sset]
    refine ⟨(m5.trans x3).mut (b0 nsi2), (m4.trans x3).mut nsi2, ⟨_, _, _, _, _, _, rfl⟩, ?_, upd_same, ?_⟩
    · rw [upd_ne n1]
      exact x3 _ _ m1
    · rw [upd_ne n3.symm]
      exact x3 _ _ m3
  · intro σ' H' z
    rw [Int.toNat_natCast] at z
    obtain ⟨e8, e28, ⟨u8, u9, u10, u11, u12, u13, rfl⟩, g1, g2, g3⟩ := z
    have hopt := opt_le h6 (show rs.length ≤ 20100 by omega)
    have ho2 := opt_two hp1 rs.length
    have optc : ((rs.length : Int) + 1) * (al.length : Int) - (rs.length : Int) + 1 = (opt al rs.length : Int) := by
      have e : ((rs.length : Int) + 1) * (al.length : Int) = (((rs.length + 1) * al.length : Nat) : Int) := by
        rw [Int.natCast_mul]
        rfl
      have h : (rs.length + 1) * 1 ≤ (rs.length + 1) * al.length := Nat.mul_le_mul_left _ hp1
      unfold opt
      rw [e]
      omega
    have hol : (((List.range rs.length).map (prt al rs)).map tx).length = rs.length := by rw [List.length_map, List.length_map, List.length_range]
    refine s_retL (el_catB (ev_var rfl) g3 (el_lst (vs := [tx (prt al rs rs.length), tx (nbl t (rs.length + 1))]) (ea_cons (ev_is (ev_call (ea_cons (ev_c (v := .int ((0 : Nat) : Int))) (ea_cons (ev_is (w := .int ((opt al rs.length : Nat) : Int)) (ev_add (ev_sub (ev_mulR (i := (rs.length : Int) + 1) (by omega) (by omega) (ev_add (ev_var rfl) ev_c) (ev_var rfl)) (ev_var rfl)) ev_c) (by rw [optc])) ea_nil)) (sv_ln (n := 0) (by omega) hopt)) (by rw [prt_end])) (ea_cons (ev_call (ea_cons (made1 e28 rfl) (ea_cons (ev_is (w := .int ((rs.length + 1 : Nat) : Int)) (ev_add (ev_var rfl) ev_c) rfl) ea_nil)) (sv_ln (n := t) (by omega) (by omega))) ea_nil)) (by show 2 ≤ 100000; decide)) (by rw [hol]; show _ + 2 ≤ _; omega)) fun l H9 hl e9 g9 => q l H9 (fresh_back e8 hl) (e8.trans e9) ?_
    rw [g9]
    unfold bnums
    rw [List.map_append, List.range_succ, List.map_append, List.map_append, List.append_assoc]
    rfl
end
end Ver
namespace Ver
open PySem PySem.Spec PyProof.Rows L2 Evl
section
variable {P : Program} {w : World} {K : PySem.W.Frag} {mg : Str → Option Value} {base : Heap} {C_PressError : Addr} {C_BadAlphabet : Addr} {C_BadLetter : Addr} {C_BadRow : Addr} {C_BadTail : Addr} {C_BadRank : Addr} {C_NotBits : Addr} {C_BadIndex : Addr} {C_BadStanding : Addr} {C_BadRule : Addr} {C_AlphabetsDiffer : Addr} {C_DoesNotComeBack : Addr} {C_TooLarge : Addr} {C_NotWritten : Addr} {C_NoSuchText : Addr} {C_BadName : Addr} {C_NameTaken : Addr} {C_NoName : Addr} {C_EmptyRing : Addr} {C_NotInLot : Addr} {C_BadBuild : Addr} {C_BadGrowth : Addr} {C_EmptyText : Addr} {C_NothingToUndo : Addr} {C_NothingToRedo : Addr}
abbrev fs_BadAlphabet : List V → List (Str × V) := fun us => [("alphabet", us.getD 0 .non)]
abbrev Er_BadAlphabet (P : Program) (w : World) (K : PySem.W.Frag) (mg : Str → Option Value) (base : Heap) (C : Addr) : Prop := ErrC P w K mg base "BadAlphabet" C 1 ["self", "alphabet"] fs_BadAlphabet
theorem he_BadAlphabet {fI : Addr} {fd : FuncData} (F : Fun K "__init__" "BadAlphabet.__init__" s_BadAlphabet___init__ fI fd) (o : OexC K C_BadAlphabet) (n0 : PySem.W.findIn K (.ref C_BadAlphabet) "alphabet" = some none) : FnOk P w K mg base CX0 1 fI fd ["self", "alphabet"] (spErr C_BadAlphabet 1 fs_BadAlphabet) := by
  refine F.ok S_BadAlphabet___init__ (fun vs H Q E h => ?_) (fun cdv A outer s H vs Q E hr h => ?_)
  · obtain ⟨a, us, rfl, hl, _⟩ := h
    show us.length + 1 = 2
    omega
  obtain ⟨a, us, rfl, hl, h1, h2⟩ := h
  match us, hl with
  | [u0], _ =>
  refine ⟨_, (pss_one
    (ps_ost (pv 0) (pv 1))), ?_⟩
  refine ⟨_, rfl, _, rfl, a, C_BadAlphabet, rfl, o, n0, .inl ⟨h1, fun dx hd ne => h2 dx _ hd ne upd_same (by rw [upd_ne ne]; exact upd_same) fun b b1 b2 => by rw [upd_ne b1, upd_ne b2]⟩⟩
abbrev fs_BadLetter : List V → List (Str × V) := fun us => [("index", us.getD 0 .non)]
abbrev Er_BadLetter (P : Program) (w : World) (K : PySem.W.Frag) (mg : Str → Option Value) (base : Heap) (C : Addr) : Prop := ErrC P w K mg base "BadLetter" C 1 ["self", "index"] fs_BadLetter
theorem he_BadLetter {fI : Addr} {fd : FuncData} (F : Fun K "__init__" "BadLetter.__init__" s_BadLetter___init__ fI fd) (o : OexC K C_BadLetter) (n0 : PySem.W.findIn K (.ref C_BadLetter) "index" = some none) : FnOk P w K mg base CX0 1 fI fd ["self", "index"] (spErr C_BadLetter 1 fs_BadLetter) := by
  refine F.ok S_BadLetter___init__ (fun vs H Q E h => ?_) (fun cdv A outer s H vs Q E hr h => ?_)
  · obtain ⟨a, us, rfl, hl, _⟩ := h
    show us.length + 1 = 2
    omega
  obtain ⟨a, us, rfl, hl, h1, h2⟩ := h
  match us, hl with
  | [u0], _ =>
  refine ⟨_, (pss_one
    (ps_ost (pv 0) (pv 1))), ?_⟩
  refine ⟨_, rfl, _, rfl, a, C_BadLetter, rfl, o, n0, .inl ⟨h1, fun dx hd ne => h2 dx _ hd ne upd_same (by rw [upd_ne ne]; exact upd_same) fun b b1 b2 => by rw [upd_ne b1, upd_ne b2]⟩⟩
end
end Ver
namespace Ver
open PySem PySem.Spec PyProof.Rows L2 Evl
theorem lets_let {c : Nat} (h : c ∈ lets) : (48 ≤ c ∧ c ≤ 57) ∨ (97 ≤ c ∧ c ≤ 122) := by
  have k : ∀ d ∈ lets, (48 ≤ d ∧ d ≤ 57) ∨ (97 ≤ d ∧ d ≤ 122) := by decide +kernel
  exact k c h
section
variable {P : Program} {w : World} {K : PySem.W.Frag} {mg : Str → Option Value} {base : Heap} {C_Cut : Addr} {C_Round : Addr} {C_PressError : Addr} {C_BadAlphabet : Addr} {C_BadLetter : Addr} {C_BadRow : Addr} {C_BadTail : Addr} {C_BadRank : Addr} {C_NotBits : Addr} {C_BadIndex : Addr} {C_BadStanding : Addr} {C_BadRule : Addr} {C_AlphabetsDiffer : Addr} {C_DoesNotComeBack : Addr} {C_TooLarge : Addr} {C_NotWritten : Addr} {C_NoSuchText : Addr} {C_BadName : Addr} {C_NameTaken : Addr} {C_NoName : Addr} {C_EmptyRing : Addr} {C_NotInLot : Addr} {C_BadBuild : Addr} {C_BadGrowth : Addr} {C_EmptyText : Addr} {C_NothingToUndo : Addr} {C_NothingToRedo : Addr}
/-! ### what is no alphabet -/
def spIsAlB : Sp := fun vs H Q _ => ∃ al : List Nat, vs = [tx al] ∧ ¬ Alf al ∧ al.length ≤ 40000 ∧ RetV (.bl false) H Q
theorem has_isalB (F : At K mg "is_alphabet" s_is_alphabet) (T : Top K mg C_Cut C_Round) : Has P w K mg base "is_alphabet" s_is_alphabet ["string"] 1 spIsAlB := by
  obtain ⟨f, fd, F, m⟩ := F.ex
  obtain ⟨tL, g_LETTERS⟩ := T.g_LETTERS
  obtain ⟨tM, g_MOST_LETTERS⟩ := T.g_MOST_LETTERS
  refine ⟨f, fd, F, F.ok S_is_alphabet (fun vs H Q E h => ?_) (fun cdv A outer s H vs Q E hr h => ?_), F.binds fun _ _ _ _ _ _ us hl => match us, hl with | [_], _ => rfl, m, F.kp⟩
  · obtain ⟨al, rfl, _⟩ := h
    rfl
  obtain ⟨al, rfl, hA, hz, q⟩ := h
  refine ⟨_, (pss_cons
    (ps_if (PW.pt (pw_or (pt_cmpR op_lt (pe_callB call_len_str rfl T.z_len PySem.boot_len (pa_cons (pv 0) pa_nil)) pe_int (nomark _)) (pw_or1 (pt_cmpR op_gt (pe_callB call_len_str rfl T.z_len PySem.boot_len (pa_cons (pv 0) pa_nil)) (pe_glob (v := .int 6) rfl g_MOST_LETTERS ⟨_, rfl⟩) (nomark _))))) (pss_one
    (ps_ret pe_bl)) pss_nil)
    (pss_cons
    (ps_if (pt_cmpR op_ne (pe_bm PySem.F.plainAttrs_str PySem.F.slot_str_strip PySem.F.type_str_strip mt_stripChars (pv 0) (pa_cons (pe_glob (v := .str (Str.ofString "0123456789abcdefghijklmnopqrstuvwxyz")) rfl g_LETTERS ⟨_, rfl⟩) pa_nil)) pe_str (nomark _)) (pss_one
    (ps_ret pe_bl)) pss_nil)
    (pss_one
    (ps_ret (pe_callB (cr_all rfl) rfl T.z_all (by decide +kernel) (pa_cons (pe_lc (own := [("one", 1), ("two", 2)]) (g := gTup K 2 (gCons (gName 1) (gCons (gName 2) gNil))) (tt := tYes) rfl S_is_alphabet.nd (pi_zipS rfl T.z_zip (pa_cons (pv 0) (pa_cons (pe_slice sl_str (pv 0) (po_some pe_int) po_none) pa_nil))) (blkOk_by (N := N_is_alphabet) (sc := defScope s_is_alphabet) (by decide +kernel)) (fun _ _ _ _ _ => pg_tup rfl (pgs_cons (pg_name (i := 1) S_is_alphabet.nd rfl (Or.inl rfl)) (pgs_cons (pg_name (i := 2) S_is_alphabet.nd rfl (Or.inl rfl)) pgs_nil))) (fun _ _ _ _ _ => pts_nil) (fun _ _ _ _ _ => (pe_cmpR op_lt_str (pv 1) (pv 2) (nomark _)))) pa_nil)))))), ?_⟩
  refine q_when (et_or (et_lt (ev_lenS (by omega) (ev_var rfl)) ev_c) (fun _ => et_gt (ev_lenS (by omega) (ev_var rfl)) ev_c)) (fun hb H1 e1 => ?_) (fun hb H1 e1 => ?_)
  · exact s_ret ev_c fun H2 e2 => q H2 (e1.trans e2)
  have hl : 1 ≤ al.length ∧ al.length ≤ 6 := by
    rw [Bool.or_eq_false_iff] at hb
    have h1 := of_decide_eq_false hb.1
    have h2 := of_decide_eq_false hb.2
    omega
  by_cases c : ∃ c ∈ al, c ∉ lets
  · have hst := strip_some c
    rw [← lets_is] at hst
    refine q_take (et_is (et_test (ev_op (ev_bm (z := .str (Txt.stripChars (SX.S al) (Str.ofString "0123456789abcdefghijklmnopqrstuvwxyz"))) (ev_var rfl) (fun _ _ => rfl) (ea_cons ev_c ea_nil) fun H2 _ Q' q' => ⟨SX.S al, _, rfl, rfl, by rw [SX.S_len]; exact sz_of (by omega), q' H2 (Ex.refl H2)⟩) ev_c (rv_ne rfl))) (by
      rw [nil_is, decide_eq_false fun z => hst (V.str.inj z)]
      rfl)) fun H2 e2 => s_ret ev_c fun H3 e3 => q H3 ((e1.trans e2).trans e3)
  · have hin : ∀ c ∈ al, c ∈ lets := fun x hx => Classical.byContradiction fun hn => c ⟨x, hx, hn⟩
    have hst : Txt.stripChars (SX.S al) (Str.ofString "0123456789abcdefghijklmnopqrstuvwxyz") = SX.S [] := by
      rw [lets_is]
      exact strip_chars hin
    refine q_skip (et_is (et_test (ev_op (ev_bm (z := tx []) (ev_var rfl) (fun _ _ => rfl) (ea_cons ev_c ea_nil) fun H2 _ Q' q' => ⟨SX.S al, _, rfl, rfl, by rw [SX.S_len]; exact sz_of (by omega), by rw [hst]; exact q' H2 (Ex.refl H2)⟩) ev_c (rv_ne rfl))) (by rw [nil_is]; simp)) fun H2 e2 => ?_
    refine s_ret (ev_is (ev_allN (bs := (List.range (min al.length (al.drop 1).length)).map fun i => decide (al.getD i 0 < (al.drop 1).getD i 0)) ?_) ?_) fun H3 e3 => q H3 ((e1.trans e2).trans e3)
    · have g := el_lcZ (K := K) (σ := [some (tx al), none, none]) (H := H2) (x := al) (y := al.drop 1) (tp := tCons (tVar 0) (tCons (tSl rSlS (tVar 0) (tPart (tC (.int 1))) tNoPart) tNil)) (j1 := 1) (j2 := 2) (vs := [1, 2]) (te := tOp (fun x y H Q => ∃ i j : Str, x = .str i ∧ y = .str j ∧ Q (.bl (decide (i.cps.toList < j.cps.toList))) H) (tVar 1) (tVar 2))
        (fun i => V.bl (decide (al.getD i 0 < (al.drop 1).getD i 0)))
        (ea_cons (ev_var rfl) (ea_cons (ev_is (ev_slS (by omega) (ev_var rfl) (eo_some (i := ((1 : Nat) : Int)) ev_c) eo_none) (by rw [cutL_from])) ea_nil)) (by omega) (fun a b => rfl) (fun i c d H3 e3 hc hd => ?_)
      · rw [List.map_map]
        exact g
      · have ec : al.getD i 0 = c := by
          rw [List.getD_eq_getElem?_getD, hc]
          rfl
        have ed : (al.drop 1).getD i 0 = d := by
          rw [List.getD_eq_getElem?_getD, hd]
          rfl
        rw [ec, ed]
        refine ev_is (ev_op (ev_var rfl) (ev_var rfl) rv_ltS) ?_
        congr 1
        refine decide_eq_decide.mpr ?_
        constructor
        · intro h
          cases h with
          | rel h => exact h
          | cons h => cases h
        · exact fun h => List.Lex.rel h
    · congr 1
      refine Bool.eq_false_iff.mpr fun hall => hA ⟨asc_of al fun i hi => ?_, hl.1, hl.2, fun c hc => lets_let (hin c hc)⟩
      rw [List.all_eq_true] at hall
      have hd : (al.drop 1).length = al.length - 1 := List.length_drop
      have := hall _ (List.mem_map.mpr ⟨i, List.mem_range.mpr (by omega), rfl⟩)
      have := of_decide_eq_true (show decide (al.getD i 0 < (al.drop 1).getD i 0) = true from this)
      rw [List.getD_eq_getElem?_getD (l := al.drop 1), List.getElem?_drop, Nat.add_comm 1 i, ← List.getD_eq_getElem?_getD] at this
      exact this
/-! ### check_alphabet, check_text that raise -/
def spCkAlB (C : Addr) : Sp := fun vs H Q E => ∃ al : List Nat, vs = [tx al] ∧ ¬ Alf al ∧ al.length ≤ 40000 ∧ RetE C [("alphabet", tx al)] H E
def HasX (P : Program) (w : World) (K : PySem.W.Frag) (mg : Str → Option Value) (base : Heap) (x : Str) (st : Stmt) (ps : List Str) (k : Nat) (sp : Sp) : Prop :=
  ∃ f fd, Fun K x x st f fd ∧ FnOk P w K mg base (L2.CX P w) k f fd ps sp ∧ L2.Binds K fd ps [] ∧ mg x = some (.ref f) ∧ PySem.W.keepIn K (.ref f) = true
/-- both at once -/
theorem has_both {x : Str} {st : Stmt} {ps : List Str} {k j : Nat} {sp sp' : Sp} (h1 : Has P w K mg base x st ps j sp) (h2 : HasX P w K mg base x st ps k sp') (hk : j ≤ k) : HasX P w K mg base x st ps k (fun vs H Q E => sp vs H Q E ∨ sp' vs H Q E) := by
  obtain ⟨f, fd, F, G, b, m, kp⟩ := h2
  obtain ⟨f1, fd1, F1, G1, b1, m1, k1⟩ := h1
  have ef : f1 = f := by
    have := m1.symm.trans m
    cases this
    rfl
  subst ef
  obtain ⟨oc, od, kV, doc, pm, an, cdv, ct, osl, rfl, lk, hcd⟩ := F.ex
  obtain ⟨oc', od', kV', doc', pm', an', cdv', ct', osl', rfl, lk', hcd'⟩ := F1.ex
  have := lk.symm.trans lk'
  cases this
  exact ⟨f1, _, F, FnOk.both (FnOk.up (G1.mono hk)) G, b, m, kp⟩
theorem has_ckalB (F : At K mg "check_alphabet" s_check_alphabet) (T : Top K mg C_Cut C_Round) (GE_BadAlphabet : Er_BadAlphabet P w K mg base C_BadAlphabet) (h1 : Has P w K mg base "is_alphabet" s_is_alphabet ["string"] 1 spIsAlB) : HasX P w K mg base "check_alphabet" s_check_alphabet ["alphabet"] 3 (spCkAlB C_BadAlphabet) := by
  obtain ⟨f, fd, F, m⟩ := F.ex
  obtain ⟨f1, fd1, _, G_is_alphabet, b_is_alphabet, m_is_alphabet, k_is_alphabet⟩ := h1
  refine ⟨f, fd, F, F.okX S_check_alphabet (fun vs H Q E h => ?_) (fun cdv A outer s H vs Q E hr h => ?_), F.binds fun _ _ _ _ _ _ us hl => match us, hl with | [_], _ => rfl, m, F.kp⟩
  · obtain ⟨al, rfl, _⟩ := h
    rfl
  obtain ⟨al, rfl, hA, hz, q⟩ := h
  refine ⟨_, (pss_one
    (ps_if (pt_not (pt_val (pe_call G_is_alphabet (hr.mono (by decide)) rfl m_is_alphabet k_is_alphabet b_is_alphabet .nil pass0 (pa_cons (pv 0) pa_nil)))) (pss_one
    (ps_raiseE rfl GE_BadAlphabet (hr.mono (by decide)) (takes_of rfl rfl rfl rfl) (pa_cons (pv 0) pa_nil) rfl)) pss_nil)), ?_⟩
  refine s_when (et_not (et_B (ev_call (ea_cons (ev_var rfl) ea_nil) (z := .bl false) fun H2 e2 Q' q' E' => ⟨al, rfl, hA, hz, q'⟩))) (fun hb H1 e1 => ?_) (fun hb H1 e1 => nomatch hb)
  exact s_raiseR (vs := [tx al]) (ea_cons (ev_var rfl) ea_nil) rfl (by decide) e1 q
def spCkTxB (C : Addr) : Sp := fun vs H Q E => ∃ (al v : List Nat) (k : Nat), vs = [tx al, tx v] ∧ bad1 al v k ∧ v.length ≤ 100000 ∧ RetE C [("index", .int (k : Int))] H E
theorem has_cktxB (F : At K mg "check_text" s_check_text) (T : Top K mg C_Cut C_Round) (GE_BadLetter : Er_BadLetter P w K mg base C_BadLetter) : HasX P w K mg base "check_text" s_check_text ["alphabet", "text"] 3 (spCkTxB C_BadLetter) := by
  obtain ⟨f, fd, F, m⟩ := F.ex
  refine ⟨f, fd, F, F.okX S_check_text (fun vs H Q E h => ?_) (fun cdv A outer s H vs Q E hr h => ?_), F.binds fun _ _ _ _ _ _ us hl => match us, hl with | [_, _], _ => rfl, m, F.kp⟩
  · obtain ⟨al, v, k, rfl, _⟩ := h
    rfl
  obtain ⟨al, v, k, rfl, hb, hz, q⟩ := h
  obtain ⟨r1, r2⟩ := bad1_rest hb
  have hk := hb.2
  refine ⟨_, (pss_cons
    (ps_set (i := 2) S_check_text.nd rfl (Or.inl rfl) (pe_bm PySem.F.plainAttrs_str PySem.F.slot_str_lstrip PySem.F.type_str_lstrip mt_lstripChars (pv 1) (pa_cons (pv 0) pa_nil)))
    (pss_one
    (ps_if (pt_cmpR op_ne (pv 2) pe_str (nomark _)) (pss_one
    (ps_raiseE rfl GE_BadLetter (hr.mono (by decide)) (takes_of rfl rfl rfl rfl) (pa_cons (pe_op op_sub (pe_callB call_len_str rfl T.z_len PySem.boot_len (pa_cons (pv 1) pa_nil)) (pe_callB call_len_str rfl T.z_len PySem.boot_len (pa_cons (pv 2) pa_nil))) pa_nil) rfl)) pss_nil))), ?_⟩
  refine q_asg (v := tx (v.dropWhile (inL al))) (ev_bm (ev_var rfl) (fun _ _ => rfl) (ea_cons (ev_var rfl) ea_nil) fun H2 _ Q' q' => ⟨SX.S v, SX.S al, rfl, rfl, by rw [SX.S_len]; exact sz_of hz, by rw [lstrip_is]; exact q' H2 (Ex.refl H2)⟩) fun H1 e1 => ?_
  refine s_when (et_is (et_test (ev_op (ev_var rfl) ev_c (rv_ne rfl))) (b := true) (by rw [nil_is, tx_dec, decide_eq_false r2]; rfl)) (fun hb H2 e2 => ?_) (fun hb H2 e2 => nomatch hb)
  exact s_raiseR (vs := [.int (k : Int)]) (ea_cons (ev_is (ev_sub (ev_lenS (by omega) (ev_var rfl)) (ev_lenS (by omega) (ev_var rfl))) (by rw [r1]; congr 1; omega)) ea_nil) rfl (by decide) (e1.trans e2) q
end
end Ver
namespace Ver
/-! ### endless texts: the mathematics -/
/-- the letters of an endless text -/
def ex (h r : List Nat) (i : Nat) : Nat := if i < h.length then h.getD i 0 else r.getD ((i - h.length) % r.length) 0
theorem ex_head {h r : List Nat} {i : Nat} (c : i < h.length) : ex h r i = h.getD i 0 := if_pos c
theorem ex_ring {h r : List Nat} {i : Nat} (c : h.length ≤ i) : ex h r i = r.getD ((i - h.length) % r.length) 0 := if_neg (by omega)
theorem ex_add {h r : List Nat} (j : Nat) : ex h r (h.length + j) = r.getD (j % r.length) 0 := by
  rw [ex_ring (by omega), Nat.add_sub_cancel_left]
theorem ex_per {h r : List Nat} {i : Nat} (c : h.length ≤ i) : ex h r (i + r.length) = ex h r i := by
  rw [ex_ring c, ex_ring (by omega), show i + r.length - h.length = (i - h.length) + r.length by omega, Nat.add_mod_right]
/-- the first n letters -/
def beg (e : Nat → Nat) (n : Nat) : List Nat := (List.range n).map e
/-- the word of length j at the place i -/
def wrd (e : Nat → Nat) (j i : Nat) : List Nat := (List.range j).map fun x => e (i + x)
theorem wrd_eq {e : Nat → Nat} {j a b : Nat} : wrd e j a = wrd e j b ↔ ∀ x, x < j → e (a + x) = e (b + x) := by
  unfold wrd
  constructor
  · intro h x hx
    have := congrArg (fun l => l[x]?) h
    simp only [List.getElem?_map, List.getElem?_range hx, Option.map_some, Option.some.injEq] at this
    exact this
  · intro h
    exact List.map_congr_left fun x hx => h x (List.mem_range.mp hx)
theorem wrd_succ {e : Nat → Nat} {j a b : Nat} : wrd e (j + 1) a = wrd e (j + 1) b ↔ e a = e b ∧ wrd e j (a + 1) = wrd e j (b + 1) := by
  rw [wrd_eq, wrd_eq]
  constructor
  · intro h
    refine ⟨h 0 (by omega), fun x hx => ?_⟩
    have := h (x + 1) (by omega)
    rw [show a + 1 + x = a + (x + 1) by omega, show b + 1 + x = b + (x + 1) by omega]
    exact this
  · rintro ⟨h0, h1⟩ x hx
    cases x with
    | zero => exact h0
    | succ y =>
      have := h1 y (by omega)
      rw [show a + (y + 1) = a + 1 + y by omega, show b + (y + 1) = b + 1 + y by omega]
      exact this
theorem wrd_low {e : Nat → Nat} {j k a b : Nat} (h : wrd e k a = wrd e k b) (hj : j ≤ k) : wrd e j a = wrd e j b :=
  wrd_eq.mpr fun x hx => wrd_eq.mp h x (by omega)
/-! ### how many different ones -/
/-- the number of different f a, a < n -/
def dif {κ : Type} [DecidableEq κ] (f : Nat → κ) : Nat → Nat
  | 0 => 0
  | n + 1 => dif f n + if ∃ b, b < n ∧ f b = f n then 0 else 1
section
variable {κ ι : Type} [DecidableEq κ] [DecidableEq ι]
theorem dif_le (f : Nat → κ) : ∀ n, dif f n ≤ n
  | 0 => Nat.le_refl 0
  | n + 1 => by
    have := dif_le f n
    unfold dif
    split <;> omega
theorem dif_mono (f : Nat → κ) (g : Nat → ι) : ∀ n, (∀ a b, a < n → b < n → g a = g b → f a = f b) → dif f n ≤ dif g n
  | 0, _ => Nat.le_refl 0
  | n + 1, h => by
    have ih := dif_mono f g n fun a b ha hb => h a b (by omega) (by omega)
    unfold dif
    by_cases c : ∃ b, b < n ∧ g b = g n
    · have c2 : ∃ b, b < n ∧ f b = f n := by
        obtain ⟨b, hb, e⟩ := c
        exact ⟨b, hb, h b n (by omega) (by omega) e⟩
      rw [if_pos c, if_pos c2]
      omega
    · rw [if_neg c]
      split <;> omega
theorem dif_congr {f : Nat → κ} {g : Nat → ι} {n : Nat} (h : ∀ a b, a < n → b < n → (f a = f b ↔ g a = g b)) : dif f n = dif g n :=
  Nat.le_antisymm (dif_mono f g n fun a b ha hb => (h a b ha hb).mpr) (dif_mono g f n fun a b ha hb => (h a b ha hb).mp)
/-- as many, so the same parts -/
theorem dif_same {f : Nat → κ} {g : Nat → ι} : ∀ n, (∀ a b, a < n → b < n → g a = g b → f a = f b) → dif f n = dif g n → ∀ a b, a < n → b < n → f a = f b → g a = g b
  | 0, _, _, a, b, ha, _, _ => absurd ha (Nat.not_lt_zero _)
  | n + 1, h, e, a, b, ha, hb, ef => by
    have h' : ∀ a b, a < n → b < n → g a = g b → f a = f b := fun a b ha hb => h a b (by omega) (by omega)
    have m := dif_mono f g n h'
    unfold dif at e
    have key : dif f n = dif g n ∧ ((∃ b, b < n ∧ f b = f n) → ∃ b, b < n ∧ g b = g n) := by
      by_cases c : ∃ b, b < n ∧ g b = g n
      · have c2 : ∃ b, b < n ∧ f b = f n := by
          obtain ⟨b, hb, e⟩ := c
          exact ⟨b, hb, h b n (by omega) (by omega) e⟩
        rw [if_pos c, if_pos c2] at e
        exact ⟨e, fun _ => c⟩
      · rw [if_neg c] at e
        by_cases c2 : ∃ b, b < n ∧ f b = f n
        · rw [if_pos c2] at e
          omega
        · rw [if_neg c2] at e
          exact ⟨by omega, fun z => absurd z c2⟩
    have ih := dif_same n h' key.1
    have last : ∀ a, a < n → f a = f n → g a = g n := by
      intro a ha ef
      obtain ⟨b, hb, eg⟩ := key.2 ⟨a, ha, ef⟩
      have e2 := h b n (by omega) (by omega) eg
      rw [← eg]
      exact ih a b ha hb (ef.trans e2.symm)
    by_cases ca : a < n
    · by_cases cb : b < n
      · exact ih a b ca cb ef
      · have : b = n := by omega
        subst this
        exact last a ca ef
    · have : a = n := by omega
      subst this
      by_cases cb : b < a
      · exact (last b cb ef.symm).symm
      · have : b = a := by omega
        subst this
        rfl
/-- all different -/
theorem dif_all {f : Nat → κ} {n : Nat} (h : dif f n = n) : ∀ a b, a < n → b < n → f a = f b → a = b := by
  have e : dif f n = dif (fun i : Nat => i) n := by
    rw [h]
    clear h
    induction n with
    | zero => rfl
    | succ n ih =>
      unfold dif
      rw [← ih, if_neg]
      rintro ⟨b, hb, e⟩
      have : b = n := e
      omega
  exact dif_same n (fun a b _ _ q => by rw [show a = b from q]) e
theorem dif_of_all {f : Nat → κ} : ∀ n, (∀ a b, a < n → b < n → f a = f b → a = b) → dif f n = n
  | 0, _ => rfl
  | n + 1, h => by
    unfold dif
    rw [dif_of_all n fun a b ha hb => h a b (by omega) (by omega), if_neg]
    rintro ⟨b, hb, e⟩
    have := h b n (by omega) (by omega) e
    omega
/-- more places with nothing new -/
theorem dif_more {f : Nat → κ} {n : Nat} : ∀ k, (∀ i, i < k → ∃ b, b < n ∧ f b = f (n + i)) → dif f (n + k) = dif f n
  | 0, _ => rfl
  | k + 1, h => by
    have h9 : ∃ b, b < n + k ∧ f b = f (n + k) := by
      obtain ⟨b, hb, e⟩ := h k (by omega)
      exact ⟨b, by omega, e⟩
    show dif f (n + k) + (if ∃ b, b < n + k ∧ f b = f (n + k) then 0 else 1) = _
    rw [if_pos h9, dif_more k (fun i hi => h i (by omega)), Nat.add_zero]
end
/-! ### the least form -/
/-- N beginnings' rests are different, the rest behind N is an earlier one's -/
structure Vty (e : Nat → Nat) (N : Nat) : Prop where
  dist : ∀ a b, a < N → b < N → (∀ x, e (a + x) = e (b + x)) → a = b
  back : ∃ s, s < N ∧ ∀ x, e (N + x) = e (s + x)
theorem Vty.one {e : Nat → Nat} {N M : Nat} (h : Vty e N) (k : Vty e M) : N = M := by
  have go : ∀ {N M : Nat}, Vty e N → Vty e M → ¬ N < M := by
    intro N M h k c
    obtain ⟨s, hs, q⟩ := h.back
    have := k.dist N s c (by omega) q
    omega
  have := go h k
  have := go k h
  omega
/-- each place's rest is that of a place below N -/
theorem Vty.low {e : Nat → Nat} {N : Nat} (h : Vty e N) : ∀ i, ∃ b, b < N ∧ ∀ x, e (i + x) = e (b + x)
  | 0 => by
    obtain ⟨s, hs, _⟩ := h.back
    exact ⟨0, by omega, fun _ => rfl⟩
  | i + 1 => by
    obtain ⟨b, hb, q⟩ := h.low i
    by_cases c : b + 1 < N
    · exact ⟨b + 1, c, fun x => by rw [show i + 1 + x = i + (1 + x) by omega, show b + 1 + x = b + (1 + x) by omega, q]⟩
    · obtain ⟨s, hs, q2⟩ := h.back
      refine ⟨s, hs, fun x => ?_⟩
      rw [← q2 x, show i + 1 + x = i + (1 + x) by omega, q, show b + (1 + x) = N + x by omega]
def cnt (e : Nat → Nat) (N j : Nat) : Nat := dif (wrd e j) N
theorem cnt_le (e : Nat → Nat) (N j : Nat) : cnt e N j ≤ N := dif_le _ _
theorem cnt_mono {e : Nat → Nat} {N j k : Nat} (h : j ≤ k) : cnt e N j ≤ cnt e N k := dif_mono _ _ _ fun _ _ _ _ q => wrd_low q h
theorem cnt_zero {e : Nat → Nat} {N : Nat} (h : 0 < N) : cnt e N 0 = 1 := by
  have e1 : dif (wrd e 0) N = dif (fun _ : Nat => (0 : Nat)) N := dif_congr fun a b _ _ => ⟨fun _ => rfl, fun _ => rfl⟩
  unfold cnt
  rw [e1]
  have : ∀ n, dif (fun _ : Nat => (0 : Nat)) (n + 1) = 1 := by
    intro n
    induction n with
    | zero =>
      unfold dif dif
      rw [if_neg (by rintro ⟨b, hb, _⟩; omega)]
    | succ n ih =>
      unfold dif
      rw [ih, if_pos ⟨0, by omega, rfl⟩]
  obtain ⟨n, rfl⟩ : ∃ n, N = n + 1 := ⟨N - 1, by omega⟩
  exact this n
/-- the places may be more -/
theorem cnt_more {e : Nat → Nat} {N M j : Nat} (h : Vty e N) (hM : N ≤ M) : cnt e M j = cnt e N j := by
  obtain ⟨k, rfl⟩ := Nat.exists_eq_add_of_le hM
  refine dif_more k fun i _ => ?_
  obtain ⟨b, hb, q⟩ := h.low (N + i)
  exact ⟨b, hb, wrd_eq.mpr fun x _ => (q x).symm⟩
/-- the numbers rise to N -/
theorem cnt_rise {e : Nat → Nat} {N j : Nat} (h : Vty e N) (c : cnt e N j < N) : cnt e N j < cnt e N (j + 1) := by
  have m : cnt e N j ≤ cnt e N (j + 1) := cnt_mono (by omega)
  refine Nat.lt_of_le_of_ne m fun eq => ?_
  have same := dif_same (f := wrd e j) (g := wrd e (j + 1)) N (fun a b _ _ q => wrd_low q (by omega)) eq
  have all : ∀ k a b, a < N → b < N → wrd e j a = wrd e j b → e (a + k) = e (b + k) := by
    intro k
    induction k with
    | zero =>
      intro a b ha hb q
      exact (wrd_succ.mp (same a b ha hb q)).1
    | succ k ih =>
      intro a b ha hb q
      have q2 := (wrd_succ.mp (same a b ha hb q)).2
      obtain ⟨a', ha', qa⟩ := h.low (a + 1)
      obtain ⟨b', hb', qb⟩ := h.low (b + 1)
      have := ih a' b' ha' hb' (wrd_eq.mpr fun x hx => by rw [← qa, ← qb]; exact wrd_eq.mp q2 x hx)
      rw [← qa, ← qb] at this
      rw [show a + (k + 1) = a + 1 + k by omega, show b + (k + 1) = b + 1 + k by omega]
      exact this
  have := dif_of_all (f := wrd e j) N fun a b ha hb q => h.dist a b ha hb fun x => all x a b ha hb q
  unfold cnt at c
  omega
theorem cnt_low {e : Nat → Nat} {N : Nat} (h : Vty e N) (hN : 0 < N) : ∀ j, min N (j + 1) ≤ cnt e N j
  | 0 => by
    rw [cnt_zero hN]
    omega
  | j + 1 => by
    have ih := cnt_low h hN j
    by_cases c : cnt e N j < N
    · have := cnt_rise h c
      omega
    · have : cnt e N j ≤ cnt e N (j + 1) := cnt_mono (by omega)
      omega
theorem cnt_full {e : Nat → Nat} {N j : Nat} (h : Vty e N) (hN : 0 < N) (hj : N ≤ j + 1) : cnt e N j = N := by
  have := cnt_low h hN j
  have := cnt_le e N j
  omega
/-! ### a least period makes a least form -/
/-- p is the least period of f -/
structure Per (f : Nat → Nat) (p : Nat) : Prop where
  pos : 0 < p
  per : ∀ x, f (x + p) = f x
  least : ∀ q, 0 < q → q < p → ∃ x, f (x + q) ≠ f x
theorem Per.times {f : Nat → Nat} {p : Nat} (h : Per f p) : ∀ k x, f (x + k * p) = f x
  | 0, x => by rw [Nat.zero_mul, Nat.add_zero]
  | k + 1, x => by
    rw [Nat.succ_mul, ← Nat.add_assoc, h.per, h.times k]
theorem Per.mod {f : Nat → Nat} {p : Nat} (h : Per f p) (x : Nat) : f (x % p) = f x := by
  have := h.times (x / p) (x % p)
  rw [Nat.mul_comm, Nat.mod_add_div] at this
  exact this.symm
/-- each period from some place on is a multiple -/
theorem Per.dvd {f : Nat → Nat} {p q m : Nat} (h : Per f p) (hq : ∀ x, m ≤ x → f (x + q) = f x) : q % p = 0 := by
  refine Classical.byContradiction fun hn => ?_
  have hlt := Nat.mod_lt q h.pos
  obtain ⟨x, hx⟩ := h.least (q % p) (by omega) hlt
  refine hx ?_
  have hmp : m ≤ m * p := Nat.le_mul_of_pos_right m h.pos
  have e1 : f (x + q % p) = f (x + q % p + (q / p) * p + m * p) := by rw [h.times, h.times]
  have e2 : x + q % p + (q / p) * p + m * p = (x + m * p) + q := by
    have := Nat.mod_add_div q p
    rw [Nat.mul_comm] at this
    omega
  rw [e1, e2, hq _ (by omega), h.times]
/-- from H on the letters are those of f, from s on with period p, and not from s - 1 on -/
theorem vty_of {e f : Nat → Nat} {H s p : Nat} (hp : Per f p) (hs : s ≤ H) (hf : ∀ x, e (H + x) = f x) (per : ∀ i, s ≤ i → e (i + p) = e i) (top : 0 < s → e (s - 1 + p) ≠ e (s - 1)) : Vty e (s + p) := by
  have pos := hp.pos
  have shift : ∀ i, s ≤ i → ∀ k, e (i + k * p) = e i := by
    intro i hi k
    induction k with
    | zero => rw [Nat.zero_mul, Nat.add_zero]
    | succ k ih => rw [Nat.succ_mul, ← Nat.add_assoc, per _ (by omega), ih]
  -- a place from s on, by f
  have byf : ∀ i, s ≤ i → ∃ y, ∀ x, e (i + x) = f (y + x) := by
    intro i hi
    refine ⟨i + H * p - H, fun x => ?_⟩
    have h1 : H ≤ H * p := Nat.le_mul_of_pos_right H pos
    rw [← shift (i + x) (by omega) H, ← hf, show H + (i + H * p - H + x) = i + x + H * p by omega]
  refine ⟨?_, s, by omega, fun x => by rw [show s + p + x = (s + x) + p by omega, per _ (by omega)]⟩
  have main : ∀ a b, a < b → b < s + p → ¬ ∀ x, e (a + x) = e (b + x) := by
    intro a b hab hb q
    -- b - a is a period of f from some place on
    have hq : (b - a) % p = 0 := hp.dvd (m := a) fun x hx => by
      have := q (x + H - a)
      rw [show a + (x + H - a) = H + x by omega, show b + (x + H - a) = H + (x + (b - a)) by omega, hf, hf] at this
      exact this.symm
    obtain ⟨k, hk⟩ := Nat.dvd_of_mod_eq_zero hq
    have hk1 : 1 ≤ k := by
      rcases Nat.eq_zero_or_pos k with z | z
      · rw [z, Nat.mul_zero] at hk
        omega
      · exact z
    have hpk : p ≤ p * k := Nat.le_mul_of_pos_right p hk1
    have has : a < s := by omega
    refine top (by omega) ?_
    have e1 := q (s - 1 - a)
    rw [show a + (s - 1 - a) = s - 1 by omega, show b + (s - 1 - a) = (s - 1 + p) + (k - 1) * p by
      have e3 : k * p = (k - 1) * p + p := by
        rw [← Nat.succ_mul]
        congr 1
        omega
      have e4 : p * k = k * p := Nat.mul_comm ..
      omega] at e1
    rw [e1, shift _ (by omega)]
  intro a b ha hb q
  rcases Nat.lt_trichotomy a b with c | c | c
  · exact absurd q (main a b c hb)
  · exact c
  · exact absurd (fun x => (q x).symm) (main b a c ha)
end Ver
namespace Ver
open PySem PySem.Spec PyProof.Rows L2 Evl
/-- the letters of a ring, again and again -/
def rd (r : List Nat) (x : Nat) : Nat := r.getD (x % r.length) 0
theorem rd_mod {r : List Nat} (x : Nat) : rd r (x % r.length) = rd r x := by
  unfold rd
  rw [Nat.mod_mod]
theorem rd_low {r : List Nat} {x : Nat} (h : x < r.length) : rd r x = r.getD x 0 := by
  unfold rd
  rw [Nat.mod_eq_of_lt h]
theorem rd_len {r : List Nat} (x : Nat) : rd r (x + r.length) = rd r x := by
  unfold rd
  rw [Nat.add_mod_right]
theorem rr_at {r : List Nat} {j : Nat} (h : j < r.length + r.length) : (r ++ r)[j]? = some (rd r j) := by
  by_cases c : j < r.length
  · rw [List.getElem?_append_left c, rd_low c, take_getD c]
  · rw [List.getElem?_append_right (by omega), take_getD (by omega)]
    obtain ⟨k, rfl⟩ := Nat.exists_eq_add_of_le (show r.length ≤ j by omega)
    rw [Nat.add_sub_cancel_left, Nat.add_comm, rd_len, rd_low (by omega)]
theorem occ_iff {r : List Nat} {k : Nat} (hk : k ≤ r.length) : ((r ++ r).drop k).take r.length = r ↔ ∀ x, rd r (x + k) = rd r x := by
  by_cases z : r.length = 0
  · have : r = [] := List.length_eq_zero_iff.mp z
    subst this
    exact ⟨fun _ x => rfl, fun _ => by simp⟩
  constructor
  · intro h x
    have hx := Nat.mod_lt x (show 0 < r.length by omega)
    have e := congrArg (fun l => l[x % r.length]?) h
    simp only [List.getElem?_take_of_lt hx, List.getElem?_drop] at e
    rw [rr_at (by omega), take_getD hx] at e
    have e2 := Option.some.inj e
    rw [← rd_low hx, rd_mod] at e2
    rw [← e2, ← rd_mod (k + x % r.length), ← rd_mod (x + k), Nat.add_mod_mod, Nat.add_comm]
  · intro h
    refine List.ext_getElem? fun j => ?_
    by_cases c : j < r.length
    · rw [List.getElem?_take_of_lt c, List.getElem?_drop, rr_at (by omega), take_getD c, Nat.add_comm, h, rd_low c]
    · rw [List.getElem?_eq_none (by rw [List.length_take]; omega), List.getElem?_eq_none (by omega)]
/-- (ring + ring).find(ring, 1) is the least period -/
theorem find_ring {r : List Nat} (h : 0 < r.length) : ∃ p : Nat, Txt.find3 (SX.S (r ++ r)) (SX.S r) 1 = (p : Int) ∧ p ≤ r.length ∧ Per (rd r) p := by
  have hat : ∀ i, StrLaws.At (SX.S (r ++ r)) (SX.S r) (SX.S (r ++ r)).length i ↔ i ≤ r.length ∧ ((r ++ r).drop i).take r.length = r := by
    intro i
    unfold StrLaws.At
    rw [StrLaws.subAt_eq, SX.S_len, SX.S_len, List.length_append]
    show (i + r.length ≤ r.length + r.length ∧ (((r ++ r).drop i).take r.length == r) = true) ↔ _
    rw [beq_iff_eq]
    constructor
    · exact fun h => ⟨by omega, h.2⟩
    · exact fun h => ⟨by omega, h.2⟩
  have full : StrLaws.At (SX.S (r ++ r)) (SX.S r) (SX.S (r ++ r)).length r.length := (hat _).mpr ⟨Nat.le_refl _, by simp⟩
  have e1 : PySem.fromIndex (SX.S (r ++ r)).length 1 = 1 := by
    unfold PySem.fromIndex
    omega
  unfold Txt.find3
  rw [e1]
  rcases StrLaws.occ_head_from (SX.S (r ++ r)) (SX.S r) 1 1 (Nat.le_refl 1) with ⟨h0, hn⟩ | ⟨k, rest, h0, hlo, hk, hn⟩
  · exact absurd full (hn _ h)
  · rw [h0]
    obtain ⟨k1, k2⟩ := (hat k).mp hk
    refine ⟨k, rfl, k1, by omega, (occ_iff k1).mp k2, fun q h1 h2 => ?_⟩
    refine Classical.byContradiction fun hc => hn q h1 h2 ((hat q).mpr ⟨by omega, (occ_iff (by omega)).mpr fun x => ?_⟩)
    exact Classical.byContradiction fun hx => hc ⟨x, hx⟩
theorem ex_rd {h r : List Nat} (j : Nat) : ex h r (h.length + j) = rd r j := ex_add j
theorem ex_rd' {h r : List Nat} {i : Nat} (c : h.length ≤ i) : ex h r i = rd r (i - h.length) := ex_ring c
/-! ### the form of a Round -/
/-- t letters of the head are those of the ring before it -/
structure Tnd (h r : List Nat) (p t : Nat) : Prop where
  le : t ≤ h.length
  eq : ∀ u, u < t → h.getD (h.length - 1 - u) 0 = rd r (p - 1 - u % p)
  top : t < h.length → h.getD (h.length - 1 - t) 0 ≠ rd r (p - 1 - t % p)
theorem Tnd.ahead {h r : List Nat} {p t : Nat} (T : Tnd h r p t) (P : Per (rd r) p) {u : Nat} (hu : u ≤ t) (hu2 : u < h.length) : ex h r (h.length - 1 - u + p) = rd r (p - 1 - u % p) := by
  have pos := P.pos
  by_cases c : u < p
  · rw [ex_rd' (by omega), Nat.mod_eq_of_lt c]
    congr 1
    omega
  · rw [ex_head (by omega), show h.length - 1 - u + p = h.length - 1 - (u - p) by omega, T.eq (u - p) (by omega), Nat.mod_eq_sub_mod (show p ≤ u by omega)]
theorem Tnd.per {h r : List Nat} {p t : Nat} (T : Tnd h r p t) (P : Per (rd r) p) {i : Nat} (hi : h.length - t ≤ i) : ex h r (i + p) = ex h r i := by
  by_cases c : h.length ≤ i
  · rw [ex_rd' c, ex_rd' (by omega), show i + p - h.length = (i - h.length) + p by omega, P.per]
  · have le := T.le
    have e := T.ahead P (u := h.length - 1 - i) (by omega) (by omega)
    rw [show h.length - 1 - (h.length - 1 - i) = i by omega] at e
    have e2 := T.eq (h.length - 1 - i) (by omega)
    rw [show h.length - 1 - (h.length - 1 - i) = i by omega] at e2
    rw [e, ex_head (by omega), e2]
theorem Tnd.vty {h r : List Nat} {p t : Nat} (T : Tnd h r p t) (P : Per (rd r) p) : Vty (ex h r) (h.length - t + p) := by
  have le := T.le
  refine vty_of (H := h.length) P (by omega) (fun x => ex_rd x) (fun i hi => T.per P hi) fun c => ?_
  have e := T.ahead P (u := t) (Nat.le_refl _) (by omega)
  rw [show h.length - 1 - t = h.length - t - 1 by omega] at e
  rw [e, ex_head (by omega)]
  have top := T.top (by omega)
  rw [show h.length - 1 - t = h.length - t - 1 by omega] at top
  exact fun z => top z.symm
/-- the ring turned -/
def trn (r : List Nat) (p k : Nat) : List Nat := (r.take p).drop k ++ (r.take p).take k
theorem trn_len {r : List Nat} {p k : Nat} (hp : p ≤ r.length) (hk : k ≤ p) : (trn r p k).length = p := by
  unfold trn
  simp only [List.length_append, List.length_drop, List.length_take]
  omega
theorem trn_at {r : List Nat} {p k j : Nat} (P : Per (rd r) p) (hp : p ≤ r.length) (hk : k ≤ p) (hj : j < p) : (trn r p k).getD j 0 = rd r (k + j) := by
  have hl : (r.take p).length = p := by
    rw [List.length_take]
    omega
  have low : ∀ i, i < p → (r.take p)[i]? = some (rd r i) := by
    intro i hi
    rw [List.getElem?_take_of_lt hi, take_getD (by omega), rd_low (by omega)]
  unfold trn
  rw [List.getD_eq_getElem?_getD]
  by_cases c : j < p - k
  · rw [List.getElem?_append_left (by rw [List.length_drop, hl]; exact c), List.getElem?_drop, low _ (by omega)]
    rfl
  · rw [List.getElem?_append_right (by rw [List.length_drop, hl]; omega), List.length_drop, hl, List.getElem?_take_of_lt (by omega), low _ (by omega)]
    show rd r (j - (p - k)) = rd r (k + j)
    rw [show k + j = (j - (p - k)) + p by omega, P.per]
/-- the least form tells the same text -/
theorem Tnd.same {h r : List Nat} {p t : Nat} (T : Tnd h r p t) (P : Per (rd r) p) (hp : p ≤ r.length) (i : Nat) : ex (h.take (h.length - t)) (trn r p (p - t % p)) i = ex h r i := by
  have le := T.le
  have pos := P.pos
  have hm := Nat.mod_lt t pos
  have hl : (h.take (h.length - t)).length = h.length - t := by
    rw [List.length_take]
    omega
  by_cases c : i < h.length - t
  · rw [ex_head (by rw [hl]; exact c), ex_head (by omega), List.getD_eq_getElem?_getD, List.getElem?_take_of_lt c, ← List.getD_eq_getElem?_getD]
  · rw [ex_ring (by rw [hl]; omega), hl, trn_len hp (by omega), trn_at P hp (by omega) (Nat.mod_lt _ pos)]
    have shift : ∀ k, ex h r (i + k * p) = ex h r i := by
      intro k
      induction k with
      | zero => rw [Nat.zero_mul, Nat.add_zero]
      | succ k ih => rw [Nat.succ_mul, ← Nat.add_assoc, T.per P (by omega), ih]
    have hHp : h.length ≤ h.length * p := Nat.le_mul_of_pos_right _ pos
    rw [← shift h.length, ex_rd' (by omega)]
    have e1 : rd r (p - t % p + (i - (h.length - t)) % p) = rd r (p - t % p + (i - (h.length - t))) := by
      rw [← P.mod (p - t % p + (i - (h.length - t)) % p), Nat.add_mod_mod, P.mod]
    rw [e1, ← P.times h.length (p - t % p + (i - (h.length - t))), ← P.times (t / p + 1) (i + h.length * p - h.length)]
    congr 1
    have e2 := Nat.mod_add_div t p
    have e3 : (t / p + 1) * p = p * (t / p) + p := by rw [Nat.succ_mul, Nat.mul_comm]
    omega
/-! ### the law's form -/
/-- windows of the text -/
theorem win_iff {h r : List Nat} {k w : Nat} (hw : r.length ≤ w) (h1 : 0 < r.length) : (∀ x, x < w → ex h r (h.length + x) = ex h r (h.length + k + x)) ↔ ∀ x, rd r (x + k) = rd r x := by
  constructor
  · intro q x
    have hx := Nat.mod_lt x h1
    have := q (x % r.length) (by omega)
    rw [ex_rd, Nat.add_assoc, ex_rd, rd_mod] at this
    rw [this, ← rd_mod (x + k), ← rd_mod (k + x % r.length), Nat.add_mod_mod, Nat.add_comm]
  · intro q x _
    rw [ex_rd, Nat.add_assoc, ex_rd, Nat.add_comm k, q]
/-- the first place from which the text has the period -/
theorem frm_vty {h r : List Nat} {p s : Nat} (P : Per (rd r) p) (hs : s ≤ h.length) (per : ∀ j, s ≤ j → j < h.length + 60 → ex h r (j + p) = ex h r j)
    (first : ∀ k, k < s → ∃ j, k ≤ j ∧ j < h.length + 60 ∧ ex h r (j + p) ≠ ex h r j) : Vty (ex h r) (s + p) := by
  have all : ∀ j, s ≤ j → ex h r (j + p) = ex h r j := by
    intro j hj
    by_cases c : h.length ≤ j
    · rw [ex_rd' c, ex_rd' (by omega), show j + p - h.length = (j - h.length) + p by omega, P.per]
    · exact per j hj (by omega)
  refine vty_of P hs (fun x => ex_rd x) all fun c z => ?_
  obtain ⟨j, j1, _, j3⟩ := first (s - 1) (by omega)
  by_cases d : s ≤ j
  · exact j3 (all j d)
  · have : j = s - 1 := by omega
    subst this
    exact j3 z
theorem frm_all {h r : List Nat} {p s : Nat} (P : Per (rd r) p) (per : ∀ j, s ≤ j → j < h.length + 60 → ex h r (j + p) = ex h r j) : ∀ j, s ≤ j → ex h r (j + p) = ex h r j := by
  intro j hj
  by_cases c : h.length ≤ j
  · rw [ex_rd' c, ex_rd' (by omega), show j + p - h.length = (j - h.length) + p by omega, P.per]
  · exact per j hj (by omega)
/-- the text that is cut out again -/
theorem frm_same {e : Nat → Nat} {p s : Nat} (hp : 0 < p) (per : ∀ j, s ≤ j → e (j + p) = e j) (i : Nat) : ex (wrd e s 0) (wrd e p s) i = e i := by
  have l1 : (wrd e s 0).length = s := by
    unfold wrd
    rw [List.length_map, List.length_range]
  have l2 : (wrd e p s).length = p := by
    unfold wrd
    rw [List.length_map, List.length_range]
  have at' : ∀ {n a j : Nat}, j < n → (wrd e n a).getD j 0 = e (a + j) := by
    intro n a j hj
    unfold wrd
    rw [List.getD_eq_getElem?_getD, List.getElem?_map, List.getElem?_range hj]
    rfl
  by_cases c : i < s
  · rw [ex_head (by omega), at' c, Nat.zero_add]
  · rw [ex_ring (by omega), l1, l2, at' (Nat.mod_lt _ hp)]
    have times : ∀ k x, s ≤ x → e (x + k * p) = e x := by
      intro k
      induction k with
      | zero =>
        intro x _
        rw [Nat.zero_mul, Nat.add_zero]
      | succ k ih =>
        intro x hx
        rw [Nat.succ_mul, ← Nat.add_assoc, per _ (by omega), ih x hx]
    have h1 := times ((i - s) / p) (s + (i - s) % p) (by omega)
    have h2 := Nat.mod_add_div (i - s) p
    rw [← h1, Nat.mul_comm, show s + (i - s) % p + p * ((i - s) / p) = i by omega]
end Ver
namespace Ver
open PySem PySem.Spec PyProof.Rows L2 Evl
/-! ### turned_letters, Round.__init__ -/
theorem atI_back {α : Type} {xs : List α} {k : Nat} {v : α} (hk : k < xs.length) (h : xs[xs.length - 1 - k]? = some v) : atI xs (-1 - (k : Int)) = some v := by
  unfold atI ixN
  rw [if_neg (by omega), if_pos (by omega)]
  show xs[(-1 - (k : Int) + (xs.length : Int)).toNat]? = some v
  rw [show (-1 - (k : Int) + (xs.length : Int)).toNat = xs.length - 1 - k by omega]
  exact h
theorem ev_ixB {σ : L2.St} {H : Hp} {ta tb : TE} {l : List Nat} {k : Nat} (hz : l.length ≤ 100000) (hk : k < l.length) (ha : Ev ta σ H (tx l)) (hb : Ev tb σ H (.int (-1 - (k : Int)))) : Ev (tOp rIxS ta tb) σ H (tx [l.getD (l.length - 1 - k) 0]) :=
  ev_op ha hb (rv_ixS (w := SX.S l) (by rw [SX.S_len]; exact hz) (atI_back (xs := l) hk (take_getD (by omega))))
structure TndL (h r : List Nat) (t : Nat) : Prop where
  le : t ≤ h.length
  eq : ∀ u, u < t → h.getD (h.length - 1 - u) 0 = r.getD (r.length - 1 - u % r.length) 0
  top : t < h.length → h.getD (h.length - 1 - t) 0 ≠ r.getD (r.length - 1 - t % r.length) 0
theorem TndL.tnd {h r : List Nat} {p t : Nat} (T : TndL h (r.take p) t) (P : Per (rd r) p) (hp : p ≤ r.length) : Tnd h r p t := by
  have hl : (r.take p).length = p := by
    rw [List.length_take]
    omega
  have pos := P.pos
  have low : ∀ u, (r.take p).getD ((r.take p).length - 1 - u % (r.take p).length) 0 = rd r (p - 1 - u % p) := by
    intro u
    have hm := Nat.mod_lt u pos
    rw [hl, List.getD_eq_getElem?_getD, List.getElem?_take_of_lt (by omega), take_getD (by omega), rd_low (by omega)]
    rfl
  refine ⟨T.le, fun u hu => ?_, fun c => ?_⟩
  · rw [T.eq u hu, low]
  · have := T.top c
    rw [low] at this
    exact this
def rndFs (al h r : List Nat) (n : Nat) : List (Str × V) := putF "variety" (.int (n : Int)) (putF "ring" (tx r) (putF "head" (tx h) (putF "alphabet" (tx al) [])))
theorem rf_head {al h r : List Nat} {n : Nat} : (rndFs al h r n).lookup ("head" : Str) = some (tx h) := by
  unfold rndFs
  rw [lookup_putF, if_neg (by decide +kernel), lookup_putF, if_neg (by decide +kernel), lookup_putF, if_pos rfl]
theorem rf_ring {al h r : List Nat} {n : Nat} : (rndFs al h r n).lookup ("ring" : Str) = some (tx r) := by
  unfold rndFs
  rw [lookup_putF, if_neg (by decide +kernel), lookup_putF, if_pos rfl]
theorem rf_variety {al h r : List Nat} {n : Nat} : (rndFs al h r n).lookup ("variety" : Str) = some (.int (n : Int)) := by
  unfold rndFs
  rw [lookup_putF, if_pos rfl]
/-- a Round at p: its letters, its variety -/
structure RndAt (C : Addr) (H : Hp) (p : Addr) (e : Nat → Nat) (N : Nat) : Prop where
  ex : ∃ (dx : Addr) (al h r : List Nat), H p = some (.ins C dx (rndFs al h r N)) ∧ h.length + r.length = N ∧ 0 < r.length ∧ (∀ i, ex h r i = e i) ∧ (∀ c ∈ h, c ∈ al) ∧ (∀ c ∈ r, c ∈ al)
  vty : Vty e N
/-- its alphabet -/
def RndAl (C : Addr) (H : Hp) (p : Addr) (al : List Nat) : Prop := ∃ (dx : Addr) (h r : List Nat) (n : Nat), H p = some (.ins C dx (rndFs al h r n))
theorem RndAl.mono {C : Addr} {H H' : Hp} {p : Addr} {al : List Nat} (h : RndAl C H p al) (x : Ex H H') : RndAl C H' p al := by
  obtain ⟨dx, hd, r, n, h1⟩ := h
  exact ⟨dx, hd, r, n, x _ _ h1⟩
theorem RndAt.mono {C : Addr} {H H' : Hp} {p : Addr} {e : Nat → Nat} {N : Nat} (h : RndAt C H p e N) (x : Ex H H') : RndAt C H' p e N := by
  obtain ⟨dx, al, hd, r, h1, h2⟩ := h.ex
  exact ⟨⟨dx, al, hd, r, x _ _ h1, h2⟩, h.vty⟩
section
variable {P : Program} {w : World} {K : PySem.W.Frag} {mg : Str → Option Value} {base : Heap} {C_Cut : Addr} {C_Round : Addr}
theorem s_fld {te ta : TE} {σ : L2.St} {H : Hp} {D : Ends} {p C dx : Addr} {fs : List (Str × V)} {f : Str} {v : V} (hv : Ev te σ H v) (ho : Ev ta σ H (.ref p)) (hp : H p = some (.ins C dx fs)) (c : Cls K C) (n : NoAttr K C f) (hz : fs.length < 1000)
    (k : ∀ H1, Ex H H1 → D.nx σ (upd H1 p (.ins C dx (putF f v fs)))) : sFld K ta te f D σ H :=
  hv H (Ex.refl H) _ fun H1 e1 => ho H1 e1 _ fun H2 e2 => ⟨p, C, dx, fs, rfl, (e1.trans e2) _ _ hp, c, n, hz, k H2 (e1.trans e2)⟩
def spTur : Sp := fun vs H Q _ => ∃ h r : List Nat, vs = [tx h, tx r] ∧ 0 < r.length ∧ r.length ≤ 1000 ∧ h.length ≤ 1000 ∧ ∀ t : Nat, TndL h r t → RetV (.int (t : Int)) H Q
theorem has_tur (F : At K mg "turned_letters" s_turned_letters) (T : Top K mg C_Cut C_Round) : Has P w K mg base "turned_letters" s_turned_letters ["head", "ring"] 1 spTur := by
  obtain ⟨f, fd, F, m⟩ := F.ex
  refine ⟨f, fd, F, F.ok S_turned_letters (fun vs H Q E h => ?_) (fun cdv A outer s H vs Q E hr h => ?_), F.binds fun _ _ _ _ _ _ us hl => match us, hl with | [_, _], _ => rfl, m, F.kp⟩
  · obtain ⟨h, r, rfl, _⟩ := h
    rfl
  obtain ⟨h, r, rfl, hp, hz, hz2, q⟩ := h
  refine ⟨_, (pss_cons
    (ps_set (i := 2) S_turned_letters.nd rfl (Or.inl rfl) pe_int)
    (pss_cons
    (ps_while PassesOwn.never (PW.pt (pw_and (pt_cmpR op_lt (pv 2) (pe_callB call_len_str rfl T.z_len PySem.boot_len (pa_cons (pv 0) pa_nil)) (nomark _)) (pw_and1 (pt_cmpR op_eq (pe_ix ix_str (pv 0) (pe_op op_sub (pe_un un_neg pe_int) (pv 2)) (fun _ _ => rfl)) (pe_ix ix_str (pv 1) (pe_op op_sub (pe_un un_neg pe_int) (pe_op op_mod (pv 2) (pe_callB call_len_str rfl T.z_len PySem.boot_len (pa_cons (pv 1) pa_nil)))) (fun _ _ => rfl)) (nomark _))))) (pss_one
    (ps_aug (i := 2) S_turned_letters.nd rfl (Or.inl rfl) pe_int ip_add)))
    (pss_one
    (ps_ret (pv 2))))), ?_⟩
  refine q_asg (v := .int ((0 : Nat) : Int)) ev_c fun H1 e1 => ?_
  refine q_while (fun n σ' H' => ∃ t : Nat, σ' = [some (tx h), some (tx r), some (.int (t : Int))] ∧ Ex H H' ∧ t ≤ h.length ∧ (∀ u, u < t → h.getD (h.length - 1 - u) 0 = r.getD (r.length - 1 - u % r.length) 0) ∧ n = h.length - t) h.length
    ⟨0, rfl, e1, Nat.zero_le _, fun u hu => absurd hu (Nat.not_lt_zero _), rfl⟩ ?_
  intro n σ' H' p
  obtain ⟨t, rfl, e2, ht, hq, rfl⟩ := p
  have hm := Nat.mod_lt t hp
  refine ⟨_, et_and (et_lt (ev_var rfl) (ev_lenS (l := h) (by omega) (ev_var rfl))) (fun hb => et_eqS (a := [h.getD (h.length - 1 - t) 0]) (b := [r.getD (r.length - 1 - t % r.length) 0]) (ev_ixB (by omega) (by have := of_decide_eq_true hb; omega) (ev_var rfl) (ev_sub (ev_un ev_c ru_neg) (ev_var rfl)))
    (ev_ixB (k := t % r.length) (by omega) hm (ev_var rfl) (ev_sub (ev_un ev_c ru_neg) (ev_is (ev_mod (j := (r.length : Int)) (by omega) (ev_var rfl) (ev_lenS (l := r) (by omega) (ev_var rfl))) (by rw [Int.natCast_emod]))))), fun hb H3 e3 => ?_, fun hb H3 e3 => ?_⟩
  · rw [Bool.and_eq_true] at hb
    have h1 := of_decide_eq_true hb.1
    have h2 := of_decide_eq_true hb.2
    refine ⟨fun σ2 H4 => ∃ t2 : Nat, σ2 = [some (tx h), some (tx r), some (.int (t2 : Int))] ∧ Ex H H4 ∧ t2 ≤ h.length ∧ (∀ u, u < t2 → h.getD (h.length - 1 - u) 0 = r.getD (r.length - 1 - u % r.length) 0) ∧ h.length - t2 < h.length - t,
      fun σ2 H4 ⟨t2, k1, k2, k3, k4, k5⟩ => ⟨h.length - t2, k5, t2, k1, k2, k3, k4, rfl⟩, ?_⟩
    refine s_aug (f := fun a b => a + b) (a := (t : Int)) rfl ev_c fun H4 e4 => ⟨t + 1, rfl, (e2.trans e3).trans e4, by omega, fun u hu => ?_, by omega⟩
    by_cases c : u < t
    · exact hq u c
    · have : u = t := by omega
      subst this
      exact (List.cons.inj h2).1
  · refine s_ret (ev_var rfl) fun H4 e4 => q t ⟨ht, hq, fun c => ?_⟩ H4 ((e2.trans e3).trans e4)
    rw [Bool.and_eq_false_iff] at hb
    rcases hb with hb | hb
    · have := of_decide_eq_false hb
      omega
    · have := of_decide_eq_false hb
      exact fun z => this (by rw [z])
/-! Round.__init__ -/
def spRnd (C : Addr) : Sp := fun vs H Q _ => ∃ (al h r : List Nat) (p dx : Addr) (H0 : Hp), vs = [.ref p, tx al, tx h, tx r] ∧ Ex H0 H ∧ H0 p = none ∧ H p = some (.ins C dx []) ∧ Alf al ∧ (∀ c ∈ h, c ∈ al) ∧ (∀ c ∈ r, c ∈ al) ∧ 0 < r.length ∧ r.length ≤ 1000 ∧ h.length ≤ 1000 ∧
  ∀ H2 N, Ex H0 H2 → N ≤ h.length + r.length → RndAt C H2 p (ex h r) N → RndAl C H2 p al → Q .non H2
theorem rnd_ok {f : Addr} {fd : FuncData} (F : Fun K "__init__" "Round.__init__" s_Round___init__ f fd) (T : Top K mg C_Cut C_Round) (h1 : Has P w K mg base "check_alphabet" s_check_alphabet ["alphabet"] 2 spCkAl) (h2 : Has P w K mg base "check_text" s_check_text ["alphabet", "text"] 1 spCkTx)
    (h3 : Has P w K mg base "turned_letters" s_turned_letters ["head", "ring"] 1 spTur) : FnOk P w K mg base CX0 3 f fd ["self", "alphabet", "head", "ring"] (spRnd C_Round) := by
  obtain ⟨f1, fd1, _, G_check_alphabet, b_check_alphabet, m_check_alphabet, k_check_alphabet⟩ := h1
  obtain ⟨f2, fd2, _, G_check_text, b_check_text, m_check_text, k_check_text⟩ := h2
  obtain ⟨f3, fd3, _, G_turned_letters, b_turned_letters, m_turned_letters, k_turned_letters⟩ := h3
  refine F.ok S_Round___init__ (fun vs H Q E h => ?_) (fun cdv A outer s H vs Q E hr h => ?_)
  · obtain ⟨al, h, r, p, dx, H0, rfl, _⟩ := h
    rfl
  obtain ⟨al, h, r, p, dx, H0, rfl, e0, hp0, hp, hA, hh, hr2, r1, r2, h2', q⟩ := h
  refine ⟨_, (pss_cons
    (ps_expr (pe_call G_check_alphabet (hr.mono (by decide)) rfl m_check_alphabet k_check_alphabet b_check_alphabet .nil pass0 (pa_cons (pv 1) pa_nil)))
    (pss_cons
    (ps_expr (pe_call G_check_text (hr.mono (by decide)) rfl m_check_text k_check_text b_check_text .nil pass0 (pa_cons (pv 1) (pa_cons (pv 2) pa_nil))))
    (pss_cons
    (ps_expr (pe_call G_check_text (hr.mono (by decide)) rfl m_check_text k_check_text b_check_text .nil pass0 (pa_cons (pv 1) (pa_cons (pv 3) pa_nil))))
    (pss_cons
    (ps_if (pt_cmpR op_eq (pv 3) pe_str (nomark _)) (pss_one
    ps_never) pss_nil)
    (pss_cons
    (ps_set (i := 4) S_Round___init__.nd rfl (Or.inl rfl) (pe_slice sl_str (pv 3) po_none (po_some (pe_bm PySem.F.plainAttrs_str PySem.F.slot_str_find PySem.F.type_str_find mt_find3 (pe_op op_add_str (pv 3) (pv 3)) (pa_cons (pv 3) (pa_cons pe_int pa_nil))))))
    (pss_cons
    (ps_set (i := 5) S_Round___init__.nd rfl (Or.inl rfl) (pe_call G_turned_letters (hr.mono (by decide)) rfl m_turned_letters k_turned_letters b_turned_letters .nil pass0 (pa_cons (pv 2) (pa_cons (pv 4) pa_nil))))
    (pss_cons
    (ps_set (i := 6) S_Round___init__.nd rfl (Or.inl rfl) (pe_op op_sub (pe_callB call_len_str rfl T.z_len PySem.boot_len (pa_cons (pv 4) pa_nil)) (pe_op op_mod (pv 5) (pe_callB call_len_str rfl T.z_len PySem.boot_len (pa_cons (pv 4) pa_nil)))))
    (pss_cons
    (ps_fld (pv 0) (pv 1) rfl)
    (pss_cons
    (ps_fld (pv 0) (pe_slice sl_str (pv 2) po_none (po_some (pe_op op_sub (pe_callB call_len_str rfl T.z_len PySem.boot_len (pa_cons (pv 2) pa_nil)) (pv 5)))) rfl)
    (pss_cons
    (ps_fld (pv 0) (pe_op op_add_str (pe_slice sl_str (pv 4) (po_some (pv 6)) po_none) (pe_slice sl_str (pv 4) po_none (po_some (pv 6)))) rfl)
    (pss_one
    (ps_fld (pv 0) (pe_op op_add (pe_callB call_len_str rfl T.z_len PySem.boot_len (pa_cons (pe_fld (pv 0) rfl) pa_nil)) (pe_callB call_len_str rfl T.z_len PySem.boot_len (pa_cons (pe_fld (pv 0) rfl) pa_nil))) rfl)))))))))))), ?_⟩
  refine q_drop (ev_call (ea_cons (ev_var rfl) ea_nil) (sv_ckal hA)) fun H1 e1 => ?_
  refine q_drop (ev_call (ea_cons (ev_var rfl) (ea_cons (ev_var rfl) ea_nil)) (sv_cktx hh (by omega))) fun H2 e2 => ?_
  refine q_drop (ev_call (ea_cons (ev_var rfl) (ea_cons (ev_var rfl) ea_nil)) (sv_cktx hr2 (by omega))) fun H3 e3 => ?_
  refine q_skip (et_is (et_test (ev_op (ev_var rfl) ev_c (rv_eq rfl))) (by
    rw [nil_is]
    refine decide_eq_false fun z => ?_
    have := SX.S_inj (V.str.inj z)
    rw [this] at r1
    exact absurd r1 (Nat.lt_irrefl 0))) fun H4 e4 => ?_
  obtain ⟨pp, fp, hpp, Pr⟩ := find_ring r1
  have e04 := ((e1.trans e2).trans e3).trans e4
  refine q_asg (v := tx (r.take pp)) (ev_is (ev_slS (by omega) (ev_var rfl) eo_none (eo_some (i := (pp : Int)) (ev_bm (ev_catS (a := r) (b := r) (by omega) (ev_var rfl) (ev_var rfl)) (fun _ _ => rfl) (ea_cons (ev_var rfl) (ea_cons ev_c ea_nil)) fun H5 e5 Q' q' => ⟨SX.S (r ++ r), SX.S r, 1, rfl, rfl, by rw [fp]; exact q' H5 (Ex.refl H5)⟩))) (by rw [cutL_to])) fun H5 e5 => ?_
  have hl : (r.take pp).length = pp := by
    rw [List.length_take]
    omega
  have pos := Pr.pos
  have e05 := e04.trans e5
  refine q_callD (vs := [tx h, tx (r.take pp)]) (dvs := []) (ea_cons (ev_var rfl) (ea_cons (ev_var rfl) ea_nil)) fun H6 e6 => ⟨h, r.take pp, rfl, by omega, by omega, h2', fun t Tl H7 e7 => ?_⟩
  have Tn := Tl.tnd Pr hpp
  have hm := Nat.mod_lt t pos
  have le := Tn.le
  have e07 := (e05.trans e6).trans e7
  refine q_asg (v := .int ((pp - t % pp : Nat) : Int)) (ev_is (ev_sub (ev_lenS (l := r.take pp) (by omega) (ev_var rfl)) (ev_mod (j := (pp : Int)) (by omega) (ev_var rfl) (ev_is (ev_lenS (l := r.take pp) (by omega) (ev_var rfl)) (by rw [hl])))) (by rw [hl, ← Int.natCast_emod]; congr 1; omega)) fun H8 e8 => ?_
  have e08 := e07.trans e8
  have cl := T.cl_Round
  have g8 : Ex H0 H8 := e0.trans e08
  have i8 := e08 _ _ hp
  refine q_fld (ev_var rfl) (ev_var rfl) i8 cl T.n_Round_alphabet (by show 0 < 1000; decide) fun H9 e9 => ?_
  have g9 : Ex H0 (L2.upd H9 p (.ins C_Round dx (putF "alphabet" (tx al) []))) := (g8.trans e9).mut hp0
  have i9 : (L2.upd H9 p (.ins C_Round dx (putF "alphabet" (tx al) []))) p = _ := upd_same
  generalize L2.upd H9 p (.ins C_Round dx (putF "alphabet" (tx al) [])) = G9 at g9 i9 ⊢
  refine q_fld (v := tx (h.take (h.length - t))) (ev_is (ev_slS (by omega) (ev_var rfl) eo_none (eo_some (i := ((h.length - t : Nat) : Int)) (ev_is (ev_sub (ev_lenS (l := h) (by omega) (ev_var rfl)) (ev_var rfl)) (by congr 1; omega)))) (by rw [cutL_to])) (ev_var rfl) i9 cl T.n_Round_head (by show 1 < 1000; decide) fun H10 e10 => ?_
  have g10 : Ex H0 (L2.upd H10 p (.ins C_Round dx (putF "head" (tx (h.take (h.length - t))) (putF "alphabet" (tx al) [])))) := (g9.trans e10).mut hp0
  have i10 : (L2.upd H10 p (.ins C_Round dx (putF "head" (tx (h.take (h.length - t))) (putF "alphabet" (tx al) [])))) p = _ := upd_same
  generalize L2.upd H10 p (.ins C_Round dx (putF "head" (tx (h.take (h.length - t))) (putF "alphabet" (tx al) []))) = G10 at g10 i10 ⊢
  refine q_fld (v := tx (trn r pp (pp - t % pp))) (ev_catS (a := (r.take pp).drop (pp - t % pp)) (b := (r.take pp).take (pp - t % pp)) (by simp only [List.length_drop, List.length_take]; omega) (ev_is (ev_slS (by omega) (ev_var rfl) (eo_some (i := ((pp - t % pp : Nat) : Int)) (ev_var rfl)) eo_none) (by rw [cutL_from]))
    (ev_is (ev_slS (by omega) (ev_var rfl) eo_none (eo_some (i := ((pp - t % pp : Nat) : Int)) (ev_var rfl))) (by rw [cutL_to]))) (ev_var rfl) i10 cl T.n_Round_ring (by show 2 < 1000; decide) fun H11 e11 => ?_
  have g11 : Ex H0 (L2.upd H11 p (.ins C_Round dx (putF "ring" (tx (trn r pp (pp - t % pp))) (putF "head" (tx (h.take (h.length - t))) (putF "alphabet" (tx al) []))))) := (g10.trans e11).mut hp0
  have i11 : (L2.upd H11 p (.ins C_Round dx (putF "ring" (tx (trn r pp (pp - t % pp))) (putF "head" (tx (h.take (h.length - t))) (putF "alphabet" (tx al) []))))) p = _ := upd_same
  generalize L2.upd H11 p (.ins C_Round dx (putF "ring" (tx (trn r pp (pp - t % pp))) (putF "head" (tx (h.take (h.length - t))) (putF "alphabet" (tx al) [])))) = G11 at g11 i11 ⊢
  have lt := trn_len (r := r) hpp (show pp - t % pp ≤ pp by omega)
  have lh : (h.take (h.length - t)).length = h.length - t := by
    rw [List.length_take]
    omega
  refine s_fld (v := .int ((h.length - t + pp : Nat) : Int)) (ev_is (ev_add (ev_lenS (by omega) (ev_fld (v := tx (h.take (h.length - t))) (ev_var rfl) i11 cl T.n_Round_head (by rw [lookup_putF, if_neg (by decide +kernel), lookup_putF, if_pos rfl]))) (ev_lenS (by omega) (ev_fld (v := tx (trn r pp (pp - t % pp))) (ev_var rfl) i11 cl T.n_Round_ring (by rw [lookup_putF, if_pos rfl])))) (by rw [lh, lt, ← Int.natCast_add])) (ev_var rfl) i11 cl T.n_Round_variety (by show 3 < 1000; decide) fun H12 e12 => ?_
  refine q _ (h.length - t + pp) ((g11.trans e12).mut hp0) (by omega) ⟨⟨dx, al, _, _, upd_same, by rw [lh, lt], by omega, fun i => Tn.same Pr hpp i, fun c hc => hh c (List.mem_of_mem_take hc), fun c hc => ?_⟩, Tn.vty Pr⟩ ⟨dx, _, _, _, upd_same⟩
  unfold trn at hc
  rcases List.mem_append.mp hc with hc | hc
  · exact hr2 c (List.mem_of_mem_take (List.mem_of_mem_drop hc))
  · exact hr2 c (List.mem_of_mem_take (List.mem_of_mem_take hc))
theorem has_rnd (F : AtI K C_Round "Round.__init__" s_Round___init__) (T : Top K mg C_Cut C_Round) (h1 : Has P w K mg base "check_alphabet" s_check_alphabet ["alphabet"] 2 spCkAl) (h2 : Has P w K mg base "check_text" s_check_text ["alphabet", "text"] 1 spCkTx)
    (h3 : Has P w K mg base "turned_letters" s_turned_letters ["head", "ring"] 1 spTur) : HasI P w K mg base C_Round ["self", "alphabet", "head", "ring"] 3 (spRnd C_Round) := by
  obtain ⟨f, fd, F, M⟩ := F.ex
  exact ⟨f, fd, rnd_ok F T h1 h2 h3, F.binds fun _ _ _ _ _ _ us hl => match us, hl with | [_, _, _, _], _ => rfl, M⟩
end
end Ver
namespace Ver
open PySem PySem.Spec PyProof.Rows L2 Evl
theorem RetE.mono {C : Addr} {fs : List (Str × V)} {H H' : Hp} {E : XK} (h : RetE C fs H E) (e : Ex H H') : RetE C fs H' E := fun d H2 e2 hd h2 => h d H2 (e.trans e2) (fresh_back e hd) h2
section
variable {P : Program} {w : World} {K : PySem.W.Frag} {mg : Str → Option Value} {base : Heap} {C_Cut : Addr} {C_Round : Addr} {C_PressError : Addr} {C_BadAlphabet : Addr} {C_BadLetter : Addr} {C_BadRow : Addr} {C_BadTail : Addr} {C_BadRank : Addr} {C_NotBits : Addr} {C_BadIndex : Addr} {C_BadStanding : Addr} {C_BadRule : Addr} {C_AlphabetsDiffer : Addr} {C_DoesNotComeBack : Addr} {C_TooLarge : Addr} {C_NotWritten : Addr} {C_NoSuchText : Addr} {C_BadName : Addr} {C_NameTaken : Addr} {C_NoName : Addr} {C_EmptyRing : Addr} {C_NotInLot : Addr} {C_BadBuild : Addr} {C_BadGrowth : Addr} {C_EmptyText : Addr} {C_NothingToUndo : Addr} {C_NothingToRedo : Addr}
def HasIX (P : Program) (w : World) (K : PySem.W.Frag) (mg : Str → Option Value) (base : Heap) (C : Addr) (ps : List Str) (k : Nat) (sp : Sp) : Prop :=
  ∃ f fd, FnOk P w K mg base (L2.CX P w) k f fd ps sp ∧ L2.Binds K fd ps [] ∧ Mk K C f
theorem q_dropS {σ : L2.St} {H : Hp} {D : Ends} {tz : TS} {sp : Sp} {E : L2.St → XK} {ta : TA} {vs : List V} (h : EvA ta σ H vs) (k : ∀ H1, Ex H H1 → sp vs H1 (fun _ H2 => tz D σ H2) (E σ)) : tSeq (tDrop (tCallS sp E ta)) tz D σ H := h H (Ex.refl H) _ k
end
end Ver
namespace Ver
open PySem PySem.Spec PyProof.Rows L2 Evl
theorem q_asgS {σ : L2.St} {H : Hp} {D : Ends} {tz : TS} {sp : Sp} {E : L2.St → XK} {ta : TA} {vs : List V} {i : Nat} (h : EvA ta σ H vs) (k : ∀ H1, Ex H H1 → sp vs H1 (fun v H2 => tz D (σ.set i (some v)) H2) (E σ)) : tSeq (tAsg (tCallS sp E ta) (gName i)) tz D σ H := h H (Ex.refl H) _ k
section
variable {P : Program} {w : World} {K : PySem.W.Frag} {mg : Str → Option Value} {base : Heap} {C_Cut : Addr} {C_Round : Addr} {C_PressError : Addr} {C_BadAlphabet : Addr} {C_BadLetter : Addr} {C_BadRow : Addr} {C_BadTail : Addr} {C_BadRank : Addr} {C_NotBits : Addr} {C_BadIndex : Addr} {C_BadStanding : Addr} {C_BadRule : Addr} {C_AlphabetsDiffer : Addr} {C_DoesNotComeBack : Addr} {C_TooLarge : Addr} {C_NotWritten : Addr} {C_NoSuchText : Addr} {C_BadName : Addr} {C_NameTaken : Addr} {C_NoName : Addr} {C_EmptyRing : Addr} {C_NotInLot : Addr} {C_BadBuild : Addr} {C_BadGrowth : Addr} {C_EmptyText : Addr} {C_NothingToUndo : Addr} {C_NothingToRedo : Addr}
/-! ### cut_of, press that raise -/
/-- what an alphabet and a text come to that are not both good -/
def txBad (CA CL : Addr) (al v : List Nat) (H : Hp) (E : XK) : Prop := (¬ Alf al ∧ RetE CA [("alphabet", tx al)] H E) ∨ (Alf al ∧ ∃ k, bad1 al v k ∧ RetE CL [("index", .int (k : Int))] H E)
theorem txBad.mono {CA CL : Addr} {al v : List Nat} {H H' : Hp} {E : XK} (h : txBad CA CL al v H E) (e : Ex H H') : txBad CA CL al v H' E := h.imp (fun ⟨a, b⟩ => ⟨a, b.mono e⟩) fun ⟨a, k, b, c⟩ => ⟨a, k, b, c.mono e⟩
def spCutB (CA CL : Addr) : Sp := fun vs H Q E => ∃ al v : List Nat, vs = [tx al, tx v] ∧ al.length ≤ 40000 ∧ v.length ≤ 40000 ∧ txBad CA CL al v H E
theorem has_cutB (F : At K mg "cut_of" s_cut_of) (T : Top K mg C_Cut C_Round) (g1 : HasX P w K mg base "check_alphabet" s_check_alphabet ["alphabet"] 3 (fun vs H Q E => spCkAl vs H Q E ∨ spCkAlB C_BadAlphabet vs H Q E)) (g2 : HasX P w K mg base "check_text" s_check_text ["alphabet", "text"] 3 (fun vs H Q E => spCkTx vs H Q E ∨ spCkTxB C_BadLetter vs H Q E))
    (g3 : HasI P w K mg base C_Cut ["self", "alphabet", "rows", "tail"] 5 (spInit C_Cut)) : HasX P w K mg base "cut_of" s_cut_of ["alphabet", "text"] 7 (spCutB C_BadAlphabet C_BadLetter) := by
  obtain ⟨f, fd, F, m⟩ := F.ex
  obtain ⟨f1, fd1, _, GX_check_alphabet, b_check_alphabet, m_check_alphabet, k_check_alphabet⟩ := g1
  obtain ⟨f2, fd2, _, GX_check_text, b_check_text, m_check_text, k_check_text⟩ := g2
  obtain ⟨f3, fd3, G_Cut___init__, b_Cut___init__, mk_Cut⟩ := g3
  refine ⟨f, fd, F, F.okX S_cut_of (fun vs H Q E h => ?_) (fun cdv A outer s H vs Q E hr h => ?_), F.binds fun _ _ _ _ _ _ us hl => match us, hl with | [_, _], _ => rfl, m, F.kp⟩
  · obtain ⟨al, v, rfl, _⟩ := h
    rfl
  obtain ⟨al, v, rfl, z1, z2, q⟩ := h
  refine ⟨_, (pss_cons
    (ps_expr (pe_callS GX_check_alphabet (hr.mono (by decide)) rfl m_check_alphabet k_check_alphabet b_check_alphabet (fun σ => passAt (takes_of rfl rfl rfl rfl) σ) (pa_cons (pv 0) pa_nil)))
    (pss_cons
    (ps_expr (pe_callS GX_check_text (hr.mono (by decide)) rfl m_check_text k_check_text b_check_text (fun σ => passAt (takes_of rfl rfl rfl rfl) σ) (pa_cons (pv 0) (pa_cons (pv 1) pa_nil))))
    (pss_cons
    (ps_set (i := 2) S_cut_of.nd rfl (Or.inl rfl) pe_dnewT)
    (pss_cons
    (ps_set (i := 3) S_cut_of.nd rfl (Or.inl rfl) (pe_lst pa_nil))
    (pss_cons
    (ps_set (i := 4) S_cut_of.nd rfl (Or.inl rfl) pe_int)
    (pss_cons
    (ps_for (passes_of rfl) rfl (pi_str (pv 1)) (pg_name (i := 5) S_cut_of.nd rfl (Or.inl rfl)) (pss_cons
    (ps_set (i := 6) S_cut_of.nd rfl (Or.inl rfl) (pe_tup (pa_cons (pv 4) (pa_cons (pv 5) pa_nil))))
    (pss_one
    (ps_if (pt_cmp (pc_din (hu_of hr) (pv 6) (pv 2))) (pss_one
    (ps_set (i := 4) S_cut_of.nd rfl (Or.inl rfl) (pe_dget (hu_of hr) (pv 2) (pv 6) (fun _ _ => rfl)))) (pss_cons
    (ps_expr (pe_bm PySem.F.plainAttrs_list PySem.F.slot_list_append PySem.F.type_list_append mt_append (pv 3) (pa_cons (pv 6) pa_nil)))
    (pss_cons
    (ps_dput (hu_of hr) (pv 2) (pv 6) (pe_callB call_len_seq rfl T.z_len PySem.boot_len (pa_cons (pv 3) pa_nil)) rfl)
    (pss_one
    (ps_set (i := 4) S_cut_of.nd rfl (Or.inl rfl) pe_int))))))))
    (pss_one
    (ps_ret (pe_make mk_Cut G_Cut___init__ (hr.mono (by decide)) rfl T.c_Cut b_Cut___init__ .nil pass0 (pa_cons (pv 0) (pa_cons (pv 3) (pa_cons (pv 4) pa_nil)))))))))))), ?_⟩
  refine q_dropS (ea_cons (ev_var rfl) ea_nil) fun H1 e1 => ?_
  rcases q with ⟨hA, q⟩ | ⟨hA, k, hb, q⟩
  · exact .inr ⟨al, rfl, hA, z1, q.mono e1⟩
  refine .inl ⟨al, rfl, hA, fun H2 e2 => ?_⟩
  refine q_dropS (ea_cons (ev_var rfl) (ea_cons (ev_var rfl) ea_nil)) fun H3 e3 => ?_
  exact .inr ⟨al, v, k, rfl, hb, by omega, q.mono ((e1.trans e2).trans e3)⟩
def spPressB (CA CL : Addr) : Sp := spCutB CA CL
theorem has_pressB (F : At K mg "press" s_press) (T : Top K mg C_Cut C_Round) (h1 : HasX P w K mg base "cut_of" s_cut_of ["alphabet", "text"] 7 (fun vs H Q E => spCut C_Cut vs H Q E ∨ spCutB C_BadAlphabet C_BadLetter vs H Q E)) (h2 : Has P w K mg base "place_numbers" s_place_numbers ["alphabet", "rows"] 2 (spPl K))
    (h3 : Has P w K mg base "number_bits" s_number_bits ["number", "options"] 2 spNb) (h4 : Has P w K mg base "free_places" s_free_places ["size", "number"] 1 spFree) : HasX P w K mg base "press" s_press ["alphabet", "text"] 8 (spPressB C_BadAlphabet C_BadLetter) := by
  obtain ⟨f, fd, F, m⟩ := F.ex
  obtain ⟨f1, fd1, _, GX_cut_of, b_cut_of, m_cut_of, k_cut_of⟩ := h1
  obtain ⟨f2, fd2, _, G_place_numbers, b_place_numbers, m_place_numbers, k_place_numbers⟩ := h2
  obtain ⟨f3, fd3, _, G_number_bits, b_number_bits, m_number_bits, k_number_bits⟩ := h3
  obtain ⟨f4, fd4, _, G_free_places, b_free_places, m_free_places, k_free_places⟩ := h4
  refine ⟨f, fd, F, F.okX S_press (fun vs H Q E h => ?_) (fun cdv A outer s H vs Q E hr h => ?_), F.binds fun _ _ _ _ _ _ us hl => match us, hl with | [_, _], _ => rfl, m, F.kp⟩
  · obtain ⟨al, v, rfl, _⟩ := h
    rfl
  obtain ⟨al, v, rfl, z1, z2, q⟩ := h
  refine ⟨_, (pss_cons
    (ps_set (i := 2) S_press.nd rfl (Or.inl rfl) (pe_callS GX_cut_of (hr.mono (by decide)) rfl m_cut_of k_cut_of b_cut_of (fun σ => passAt (takes_of rfl rfl rfl rfl) σ) (pa_cons (pv 0) (pa_cons (pv 1) pa_nil))))
    (pss_cons
    (ps_set (i := 3) S_press.nd rfl (Or.inl rfl) (pe_callB call_len_str rfl T.z_len PySem.boot_len (pa_cons (pv 0) pa_nil)))
    (pss_cons
    (ps_set (i := 4) S_press.nd rfl (Or.inl rfl) (pe_lst pa_nil))
    (pss_cons
    (ps_for (passes_of rfl) rfl (pi_enumK rfl T.z_enumerate (pa_cons (pe_call G_place_numbers (hr.mono (by decide)) rfl m_place_numbers k_place_numbers b_place_numbers .nil pass0 (pa_cons (pv 0) (pa_cons (pe_fld (pv 2) rfl) pa_nil))) pa_nil) (pk_cons pe_int pk_nil)) (pg_tup rfl (pgs_cons (pg_name (i := 5) S_press.nd rfl (Or.inl rfl)) (pgs_cons (pg_name (i := 6) S_press.nd rfl (Or.inl rfl)) pgs_nil))) (pss_one
    (ps_expr (pe_bm PySem.F.plainAttrs_list PySem.F.slot_list_append PySem.F.type_list_append mt_append (pv 4) (pa_cons (pe_call G_number_bits (hr.mono (by decide)) rfl m_number_bits k_number_bits b_number_bits .nil pass0 (pa_cons (pe_op op_add pe_int (pv 6)) (pa_cons (pe_op op_add (pe_call G_free_places (hr.mono (by decide)) rfl m_free_places k_free_places b_free_places .nil pass0 (pa_cons (pv 3) (pa_cons (pv 5) pa_nil))) pe_int) pa_nil))) pa_nil)))))
    (pss_cons
    (ps_expr (pe_bm PySem.F.plainAttrs_list PySem.F.slot_list_append PySem.F.type_list_append mt_append (pv 4) (pa_cons (pe_call G_number_bits (hr.mono (by decide)) rfl m_number_bits k_number_bits b_number_bits .nil pass0 (pa_cons pe_int (pa_cons (pe_op op_add (pe_call G_free_places (hr.mono (by decide)) rfl m_free_places k_free_places b_free_places .nil pass0 (pa_cons (pv 3) (pa_cons (pe_op op_add (pe_fld (pv 2) rfl) pe_int) pa_nil))) pe_int) pa_nil))) pa_nil)))
    (pss_cons
    (ps_expr (pe_bm PySem.F.plainAttrs_list PySem.F.slot_list_append PySem.F.type_list_append mt_append (pv 4) (pa_cons (pe_call G_number_bits (hr.mono (by decide)) rfl m_number_bits k_number_bits b_number_bits .nil pass0 (pa_cons (pe_fld (pv 2) rfl) (pa_cons (pe_op op_add (pe_fld (pv 2) rfl) pe_int) pa_nil))) pa_nil)))
    (pss_one
    (ps_ret (pe_join pe_str (pv 4)))))))))), ?_⟩
  exact q_asgS (ea_cons (ev_var rfl) (ea_cons (ev_var rfl) ea_nil)) fun H1 e1 => .inr ⟨al, v, rfl, z1, z2, q.mono e1⟩
end
end Ver
namespace Ver
open PySem PySem.Spec PyProof.Rows L2 Evl
section
variable {P : Program} {w : World} {K : PySem.W.Frag} {mg : Str → Option Value} {base : Heap} {C_Cut : Addr} {C_Round : Addr}
theorem has_lwhole (F : At K mg "_law_whole" s__law_whole) (T : Top K mg C_Cut C_Round) : Has P w K mg base "_law_whole" s__law_whole ["value"] 1 spWhole := by
  obtain ⟨f, fd, F, m⟩ := F.ex
  refine ⟨f, fd, F, F.ok S__law_whole (fun vs H Q E h => ?_) (fun cdv A outer s H vs Q E hr h => ?_), F.binds fun _ _ _ _ _ _ us hl => match us, hl with | [_], _ => rfl, m, F.kp⟩
  · obtain ⟨n, rfl, _⟩ := h
    rfl
  obtain ⟨n, rfl, q⟩ := h
  refine ⟨_, (pss_one
    (ps_ret (pe_and (pe_callB call_isi rfl T.z_isinstance (by decide +kernel) (pa_cons (pv 0) (pa_cons (pe_bltn (v := .ty "int") rfl T.z_int (by decide +kernel) rfl) pa_nil))) (pe_one (pe_not (pe_callB call_isi rfl T.z_isinstance (by decide +kernel) (pa_cons (pv 0) (pa_cons (pe_bltn (v := .ty "bool") rfl T.z_bool (by decide +kernel) rfl) pa_nil)))))))), ?_⟩
  exact s_ret (ev_is (ev_andV (ev_cb (ea_cons (ev_var rfl) (ea_cons ev_c ea_nil)) (rc_isi (b := true) (by decide +kernel)))
    (fun _ => ev_notV (ev_cb (ea_cons (ev_var rfl) (ea_cons ev_c ea_nil)) (rc_isi (b := false) (by decide +kernel))))) rfl) q
end
end Ver
namespace Ver
open PySem PySem.Spec PyProof.Rows L2 Evl
section
variable {P : Program} {w : World} {K : PySem.W.Frag} {mg : Str → Option Value} {base : Heap} {C_Cut : Addr} {C_Round : Addr} {C_PressError : Addr} {C_BadAlphabet : Addr} {C_BadLetter : Addr} {C_BadRow : Addr} {C_BadTail : Addr} {C_BadRank : Addr} {C_NotBits : Addr} {C_BadIndex : Addr} {C_BadStanding : Addr} {C_BadRule : Addr} {C_AlphabetsDiffer : Addr} {C_DoesNotComeBack : Addr} {C_TooLarge : Addr} {C_NotWritten : Addr} {C_NoSuchText : Addr} {C_BadName : Addr} {C_NameTaken : Addr} {C_NoName : Addr} {C_EmptyRing : Addr} {C_NotInLot : Addr} {C_BadBuild : Addr} {C_BadGrowth : Addr} {C_EmptyText : Addr} {C_NothingToUndo : Addr} {C_NothingToRedo : Addr}
/-- a def that is called with an error standing by -/
def HasP (P : Program) (w : World) (K : PySem.W.Frag) (mg : Str → Option Value) (base : Heap) (x : Str) (ps : List Str) (k : Nat) (sp : Addr → Value → Option Addr → Sp) : Prop :=
  ∃ f fd, FnP P w K mg base k f fd ps sp ∧ L2.Binds K fd ps [] ∧ mg x = some (.ref f) ∧ PySem.W.keepIn K (.ref f) = true
def dOk (d : Option Addr) (H : Hp) : Prop := ∀ dd, d = some dd → ∃ fs, H dd = some (.xd fs)
theorem dOk.mono {d : Option Addr} {H H' : Hp} (h : dOk d H) (e : Ex H H') : dOk d H' := fun dd x => (h dd x).imp fun fs q => e _ _ q
section
variable {σ : L2.St} {H : Hp} {ta tb : TE} {a D : Addr} {cls : Value} {d : Option Addr} {c : V} {cv : Value} {b : Bool} {cs : List V} {cvs : List Value}
theorem ev_isS (ha : Ev ta σ H (.ref a)) (hb : Ev tb σ H c) (hc : cls = .ref D) (C : ExcC K D) (hd : dOk d H) (k : ClsV c cv) (e : PySem.W.kitOne K (.ref D) cv = some b) : Ev (tCB (rIsS K a cls d) (tCons ta (tCons tb tNil))) σ H (.bl b) := fun H1 x Q q =>
  ha H1 x _ fun H2 e2 => hb H2 (x.trans e2) _ fun H3 e3 => ⟨D, c, cv, b, rfl, hc, C, hd.mono ((x.trans e2).trans e3), k, e, q H3 (e2.trans e3)⟩
theorem ev_isO (ha : Ev ta σ H (.ref a)) (hb : Ev tb σ H c) (C : ExcC K D) (hd : H a = some (ExO (.ref D) a)) (k : ClsV c cv) (e : PySem.W.kitOne K (.ref D) cv = some b) : Ev (tCB (rIsO K) (tCons ta (tCons tb tNil))) σ H (.bl b) := fun H1 x Q q =>
  ha H1 x _ fun H2 e2 => hb H2 (x.trans e2) _ fun H3 e3 => ⟨a, D, c, cv, b, rfl, C, ((x.trans e2).trans e3) _ _ hd, k, e, q H3 (e2.trans e3)⟩
theorem ev_isST (ha : Ev ta σ H (.ref a)) (hb : EvU tb σ H cs) (hc : cls = .ref D) (C : ExcC K D) (hd : dOk d H) (k : Paired ClsV cs cvs) (e : PySem.W.kitAny K (.ref D) cvs = some b) : Ev (tCB (rIsST K a cls d) (tCons ta (tCons tb tNil))) σ H (.bl b) := fun H1 x Q q =>
  ha H1 x _ fun H2 e2 => hb H2 (x.trans e2) _ fun tp H3 _ e3 g3 => ⟨D, tp, cs, cvs, b, rfl, hc, C, hd.mono ((x.trans e2).trans e3), g3, k, e, q H3 (e2.trans e3)⟩
theorem ev_isOT (ha : Ev ta σ H (.ref a)) (hb : EvU tb σ H cs) (C : ExcC K D) (hd : H a = some (ExO (.ref D) a)) (k : Paired ClsV cs cvs) (e : PySem.W.kitAny K (.ref D) cvs = some b) : Ev (tCB (rIsOT K) (tCons ta (tCons tb tNil))) σ H (.bl b) := fun H1 x Q q =>
  ha H1 x _ fun H2 e2 => hb H2 (x.trans e2) _ fun tp H3 _ e3 g3 => ⟨a, D, tp, cs, cvs, b, rfl, C, ((x.trans e2).trans e3) _ _ hd, g3, k, e, q H3 (e2.trans e3)⟩
end
/-! ### _law_whole with an error standing by -/
theorem hp_lwhole (F : At K mg "_law_whole" s__law_whole) (T : Top K mg C_Cut C_Round) : HasP P w K mg base "_law_whole" ["value"] 1 (fun _ _ _ => spWhole) := by
  obtain ⟨f, fd, F, m⟩ := F.ex
  refine ⟨f, fd, okP F S__law_whole (fun a cls d vs H Q E h => ?_) (fun cdv A outer s H vs Q E p cls d hz hf hr h => ?_), F.binds fun _ _ _ _ _ _ us hl => match us, hl with | [_], _ => rfl, m, F.kp⟩
  · obtain ⟨n, rfl, _⟩ := h
    rfl
  obtain ⟨n, rfl, q⟩ := h
  refine ⟨_, (pss_one
    (ps_ret (pe_and (pe_callB call_isi rfl T.z_isinstance (by decide +kernel) (pa_cons (pv 0) (pa_cons (pe_bltn (v := .ty "int") rfl T.z_int (by decide +kernel) rfl) pa_nil))) (pe_one (pe_not (pe_callB call_isi rfl T.z_isinstance (by decide +kernel) (pa_cons (pv 0) (pa_cons (pe_bltn (v := .ty "bool") rfl T.z_bool (by decide +kernel) rfl) pa_nil)))))))), ?_⟩
  exact s_ret (ev_is (ev_andV (ev_cb (ea_cons (ev_var rfl) (ea_cons ev_c ea_nil)) (rc_isi (b := true) (by decide +kernel)))
    (fun _ => ev_notV (ev_cb (ea_cons (ev_var rfl) (ea_cons ev_c ea_nil)) (rc_isi (b := false) (by decide +kernel))))) rfl) q
end
end Ver
namespace Ver
open PySem PySem.Spec PyProof.Rows L2 Evl
section
variable {P : Program} {w : World} {K : PySem.W.Frag} {mg : Str → Option Value} {base : Heap} {C_Cut : Addr} {C_Round : Addr} {C_PressError : Addr} {C_BadAlphabet : Addr} {C_BadLetter : Addr} {C_BadRow : Addr} {C_BadTail : Addr} {C_BadRank : Addr} {C_NotBits : Addr} {C_BadIndex : Addr} {C_BadStanding : Addr} {C_BadRule : Addr} {C_AlphabetsDiffer : Addr} {C_DoesNotComeBack : Addr} {C_TooLarge : Addr} {C_NotWritten : Addr} {C_NoSuchText : Addr} {C_BadName : Addr} {C_NameTaken : Addr} {C_NoName : Addr} {C_EmptyRing : Addr} {C_NotInLot : Addr} {C_BadBuild : Addr} {C_BadGrowth : Addr} {C_EmptyText : Addr} {C_NothingToUndo : Addr} {C_NothingToRedo : Addr}
def spKin (C : Addr) : Addr → Value → Option Addr → Sp := fun a cls d vs H Q _ => vs = [.ref a] ∧ cls = .ref C ∧ dOk d H ∧ RetV (.bl true) H Q
def spKin2 (C1 C2 : Addr) : Addr → Value → Option Addr → Sp := fun a cls d vs H Q _ => vs = [.ref a] ∧ (cls = .ref C1 ∨ cls = .ref C2) ∧ dOk d H ∧ RetV (.bl true) H Q
theorem hp_kin (F : At K mg "_law_kin" s__law_kin) (T : Top K mg C_Cut C_Round) (TE : ETop K mg C_PressError C_BadAlphabet C_BadLetter C_BadRow C_BadTail C_BadRank C_NotBits C_BadIndex C_BadStanding C_BadRule C_AlphabetsDiffer C_DoesNotComeBack C_TooLarge C_NotWritten C_NoSuchText C_BadName C_NameTaken C_NoName C_EmptyRing C_NotInLot C_BadBuild C_BadGrowth C_EmptyText C_NothingToUndo C_NothingToRedo) (x1 : ExcC K C_BadAlphabet) (x2 : ExcC K C_BadLetter) : HasP P w K mg base "_law_kin" ["e"] 1 (spKin2 C_BadAlphabet C_BadLetter) := by
  obtain ⟨f, fd, F, m⟩ := F.ex
  refine ⟨f, fd, okP F S__law_kin (fun a cls d vs H Q E h => ?_) (fun cdv A outer s H vs Q E p cls d hz hf hr h => ?_), F.binds fun _ _ _ _ _ _ us hl => match us, hl with | [_], _ => rfl, m, F.kp⟩
  · obtain ⟨rfl, _⟩ := h
    rfl
  obtain ⟨rfl, hc, hd, q⟩ := h
  refine ⟨_, (pss_cons
    (ps_if (PW.pt (pw_or (pt_not (pt_val (by exact (pe_callB (id := "isinstance") (call_isS (p := p) (a := p.1) (K := K) rfl rfl List.mem_cons_self hz hf) rfl T.z_isinstance (by decide +kernel) (pa_cons (pv 0) (pa_cons (pe_glob (v := .ref C_PressError) rfl TE.c_PressError rfl) pa_nil)))))) (pw_or1 (pt_not (pt_val (by exact (pe_callB (id := "isinstance") (call_isS (p := p) (a := p.1) (K := K) rfl rfl List.mem_cons_self hz hf) rfl T.z_isinstance (by decide +kernel) (pa_cons (pv 0) (pa_cons (pe_bltn (v := .ty "ValueError") rfl T.z_ValueError (by decide +kernel) rfl) pa_nil))))))))) (pss_one
    (ps_ret pe_bl)) pss_nil)
    (pss_cons
    (ps_set (i := 1) S__law_kin.nd rfl (Or.inl rfl) (pe_op op_add (pe_op op_add (pe_op op_add (pe_callTy call_int1 rfl T.z_int (by decide +kernel) (pa_cons (by exact (pe_callB (id := "isinstance") (call_isS (p := p) (a := p.1) (K := K) rfl rfl List.mem_cons_self hz hf) rfl T.z_isinstance (by decide +kernel) (pa_cons (pv 0) (pa_cons (pe_glob (v := .ref C_BadAlphabet) rfl TE.c_BadAlphabet rfl) pa_nil)))) pa_nil)) (pe_callTy call_int1 rfl T.z_int (by decide +kernel) (pa_cons (by exact (pe_callB (id := "isinstance") (call_isS (p := p) (a := p.1) (K := K) rfl rfl List.mem_cons_self hz hf) rfl T.z_isinstance (by decide +kernel) (pa_cons (pv 0) (pa_cons (pe_glob (v := .ref C_BadLetter) rfl TE.c_BadLetter rfl) pa_nil)))) pa_nil))) (pe_callTy call_int1 rfl T.z_int (by decide +kernel) (pa_cons (by exact (pe_callB (id := "isinstance") (call_isS (p := p) (a := p.1) (K := K) rfl rfl List.mem_cons_self hz hf) rfl T.z_isinstance (by decide +kernel) (pa_cons (pv 0) (pa_cons (pe_glob (v := .ref C_BadRow) rfl TE.c_BadRow rfl) pa_nil)))) pa_nil))) (pe_callTy call_int1 rfl T.z_int (by decide +kernel) (pa_cons (by exact (pe_callB (id := "isinstance") (call_isS (p := p) (a := p.1) (K := K) rfl rfl List.mem_cons_self hz hf) rfl T.z_isinstance (by decide +kernel) (pa_cons (pv 0) (pa_cons (pe_glob (v := .ref C_BadTail) rfl TE.c_BadTail rfl) pa_nil)))) pa_nil))))
    (pss_cons
    (ps_set (i := 1) S__law_kin.nd rfl (Or.inl rfl) (pe_op op_add (pe_op op_add (pe_op op_add (pe_op op_add (pv 1) (pe_callTy call_int1 rfl T.z_int (by decide +kernel) (pa_cons (by exact (pe_callB (id := "isinstance") (call_isS (p := p) (a := p.1) (K := K) rfl rfl List.mem_cons_self hz hf) rfl T.z_isinstance (by decide +kernel) (pa_cons (pv 0) (pa_cons (pe_glob (v := .ref C_BadRank) rfl TE.c_BadRank rfl) pa_nil)))) pa_nil))) (pe_callTy call_int1 rfl T.z_int (by decide +kernel) (pa_cons (by exact (pe_callB (id := "isinstance") (call_isS (p := p) (a := p.1) (K := K) rfl rfl List.mem_cons_self hz hf) rfl T.z_isinstance (by decide +kernel) (pa_cons (pv 0) (pa_cons (pe_glob (v := .ref C_NotBits) rfl TE.c_NotBits rfl) pa_nil)))) pa_nil))) (pe_callTy call_int1 rfl T.z_int (by decide +kernel) (pa_cons (by exact (pe_callB (id := "isinstance") (call_isS (p := p) (a := p.1) (K := K) rfl rfl List.mem_cons_self hz hf) rfl T.z_isinstance (by decide +kernel) (pa_cons (pv 0) (pa_cons (pe_glob (v := .ref C_BadIndex) rfl TE.c_BadIndex rfl) pa_nil)))) pa_nil))) (pe_callTy call_int1 rfl T.z_int (by decide +kernel) (pa_cons (by exact (pe_callB (id := "isinstance") (call_isS (p := p) (a := p.1) (K := K) rfl rfl List.mem_cons_self hz hf) rfl T.z_isinstance (by decide +kernel) (pa_cons (pv 0) (pa_cons (pe_glob (v := .ref C_BadStanding) rfl TE.c_BadStanding rfl) pa_nil)))) pa_nil))))
    (pss_cons
    (ps_set (i := 1) S__law_kin.nd rfl (Or.inl rfl) (pe_op op_add (pe_op op_add (pe_op op_add (pv 1) (pe_callTy call_int1 rfl T.z_int (by decide +kernel) (pa_cons (by exact (pe_callB (id := "isinstance") (call_isS (p := p) (a := p.1) (K := K) rfl rfl List.mem_cons_self hz hf) rfl T.z_isinstance (by decide +kernel) (pa_cons (pv 0) (pa_cons (pe_glob (v := .ref C_BadRule) rfl TE.c_BadRule rfl) pa_nil)))) pa_nil))) (pe_callTy call_int1 rfl T.z_int (by decide +kernel) (pa_cons (by exact (pe_callB (id := "isinstance") (call_isS (p := p) (a := p.1) (K := K) rfl rfl List.mem_cons_self hz hf) rfl T.z_isinstance (by decide +kernel) (pa_cons (pv 0) (pa_cons (pe_glob (v := .ref C_AlphabetsDiffer) rfl TE.c_AlphabetsDiffer rfl) pa_nil)))) pa_nil))) (pe_callTy call_int1 rfl T.z_int (by decide +kernel) (pa_cons (by exact (pe_callB (id := "isinstance") (call_isS (p := p) (a := p.1) (K := K) rfl rfl List.mem_cons_self hz hf) rfl T.z_isinstance (by decide +kernel) (pa_cons (pv 0) (pa_cons (pe_glob (v := .ref C_DoesNotComeBack) rfl TE.c_DoesNotComeBack rfl) pa_nil)))) pa_nil))))
    (pss_cons
    (ps_set (i := 1) S__law_kin.nd rfl (Or.inl rfl) (pe_op op_add (pe_op op_add (pe_op op_add (pe_op op_add (pv 1) (pe_callTy call_int1 rfl T.z_int (by decide +kernel) (pa_cons (by exact (pe_callB (id := "isinstance") (call_isS (p := p) (a := p.1) (K := K) rfl rfl List.mem_cons_self hz hf) rfl T.z_isinstance (by decide +kernel) (pa_cons (pv 0) (pa_cons (pe_glob (v := .ref C_TooLarge) rfl TE.c_TooLarge rfl) pa_nil)))) pa_nil))) (pe_callTy call_int1 rfl T.z_int (by decide +kernel) (pa_cons (by exact (pe_callB (id := "isinstance") (call_isS (p := p) (a := p.1) (K := K) rfl rfl List.mem_cons_self hz hf) rfl T.z_isinstance (by decide +kernel) (pa_cons (pv 0) (pa_cons (pe_glob (v := .ref C_NotWritten) rfl TE.c_NotWritten rfl) pa_nil)))) pa_nil))) (pe_callTy call_int1 rfl T.z_int (by decide +kernel) (pa_cons (by exact (pe_callB (id := "isinstance") (call_isS (p := p) (a := p.1) (K := K) rfl rfl List.mem_cons_self hz hf) rfl T.z_isinstance (by decide +kernel) (pa_cons (pv 0) (pa_cons (pe_glob (v := .ref C_NoSuchText) rfl TE.c_NoSuchText rfl) pa_nil)))) pa_nil))) (pe_callTy call_int1 rfl T.z_int (by decide +kernel) (pa_cons (by exact (pe_callB (id := "isinstance") (call_isS (p := p) (a := p.1) (K := K) rfl rfl List.mem_cons_self hz hf) rfl T.z_isinstance (by decide +kernel) (pa_cons (pv 0) (pa_cons (pe_glob (v := .ref C_BadName) rfl TE.c_BadName rfl) pa_nil)))) pa_nil))))
    (pss_cons
    (ps_set (i := 1) S__law_kin.nd rfl (Or.inl rfl) (pe_op op_add (pe_op op_add (pe_op op_add (pe_op op_add (pv 1) (pe_callTy call_int1 rfl T.z_int (by decide +kernel) (pa_cons (by exact (pe_callB (id := "isinstance") (call_isS (p := p) (a := p.1) (K := K) rfl rfl List.mem_cons_self hz hf) rfl T.z_isinstance (by decide +kernel) (pa_cons (pv 0) (pa_cons (pe_glob (v := .ref C_NameTaken) rfl TE.c_NameTaken rfl) pa_nil)))) pa_nil))) (pe_callTy call_int1 rfl T.z_int (by decide +kernel) (pa_cons (by exact (pe_callB (id := "isinstance") (call_isS (p := p) (a := p.1) (K := K) rfl rfl List.mem_cons_self hz hf) rfl T.z_isinstance (by decide +kernel) (pa_cons (pv 0) (pa_cons (pe_glob (v := .ref C_NoName) rfl TE.c_NoName rfl) pa_nil)))) pa_nil))) (pe_callTy call_int1 rfl T.z_int (by decide +kernel) (pa_cons (by exact (pe_callB (id := "isinstance") (call_isS (p := p) (a := p.1) (K := K) rfl rfl List.mem_cons_self hz hf) rfl T.z_isinstance (by decide +kernel) (pa_cons (pv 0) (pa_cons (pe_glob (v := .ref C_EmptyRing) rfl TE.c_EmptyRing rfl) pa_nil)))) pa_nil))) (pe_callTy call_int1 rfl T.z_int (by decide +kernel) (pa_cons (by exact (pe_callB (id := "isinstance") (call_isS (p := p) (a := p.1) (K := K) rfl rfl List.mem_cons_self hz hf) rfl T.z_isinstance (by decide +kernel) (pa_cons (pv 0) (pa_cons (pe_glob (v := .ref C_NotInLot) rfl TE.c_NotInLot rfl) pa_nil)))) pa_nil))))
    (pss_cons
    (ps_set (i := 1) S__law_kin.nd rfl (Or.inl rfl) (pe_op op_add (pe_op op_add (pe_op op_add (pv 1) (pe_callTy call_int1 rfl T.z_int (by decide +kernel) (pa_cons (by exact (pe_callB (id := "isinstance") (call_isS (p := p) (a := p.1) (K := K) rfl rfl List.mem_cons_self hz hf) rfl T.z_isinstance (by decide +kernel) (pa_cons (pv 0) (pa_cons (pe_glob (v := .ref C_BadBuild) rfl TE.c_BadBuild rfl) pa_nil)))) pa_nil))) (pe_callTy call_int1 rfl T.z_int (by decide +kernel) (pa_cons (by exact (pe_callB (id := "isinstance") (call_isS (p := p) (a := p.1) (K := K) rfl rfl List.mem_cons_self hz hf) rfl T.z_isinstance (by decide +kernel) (pa_cons (pv 0) (pa_cons (pe_glob (v := .ref C_BadGrowth) rfl TE.c_BadGrowth rfl) pa_nil)))) pa_nil))) (pe_callTy call_int1 rfl T.z_int (by decide +kernel) (pa_cons (by exact (pe_callB (id := "isinstance") (call_isS (p := p) (a := p.1) (K := K) rfl rfl List.mem_cons_self hz hf) rfl T.z_isinstance (by decide +kernel) (pa_cons (pv 0) (pa_cons (pe_glob (v := .ref C_EmptyText) rfl TE.c_EmptyText rfl) pa_nil)))) pa_nil))))
    (pss_cons
    (ps_set (i := 1) S__law_kin.nd rfl (Or.inl rfl) (pe_op op_add (pe_op op_add (pv 1) (pe_callTy call_int1 rfl T.z_int (by decide +kernel) (pa_cons (by exact (pe_callB (id := "isinstance") (call_isS (p := p) (a := p.1) (K := K) rfl rfl List.mem_cons_self hz hf) rfl T.z_isinstance (by decide +kernel) (pa_cons (pv 0) (pa_cons (pe_glob (v := .ref C_NothingToUndo) rfl TE.c_NothingToUndo rfl) pa_nil)))) pa_nil))) (pe_callTy call_int1 rfl T.z_int (by decide +kernel) (pa_cons (by exact (pe_callB (id := "isinstance") (call_isS (p := p) (a := p.1) (K := K) rfl rfl List.mem_cons_self hz hf) rfl T.z_isinstance (by decide +kernel) (pa_cons (pv 0) (pa_cons (pe_glob (v := .ref C_NothingToRedo) rfl TE.c_NothingToRedo rfl) pa_nil)))) pa_nil))))
    (pss_one
    (ps_ret (pe_cmpR op_eq (pv 1) pe_int (nomark _)))))))))))), ?_⟩
  rcases hc with hc | hc
  · refine q_skip (et_is (et_or (et_not (et_B (ev_isS (ev_var rfl) ev_c hc x1 hd (.own _) TE.kt_BadAlphabet_PressError))) (fun _ => et_not (et_B (ev_isS (ev_var rfl) ev_c hc x1 hd (.ty _) TE.kt_BadAlphabet_VE)))) rfl) fun H0 e0 => ?_
    refine q_asg (v := .int 1) (ev_is (ev_add (ev_add (ev_add (ev_intB (ev_isS (ev_var rfl) ev_c hc x1 (hd.mono e0) (.own _) TE.kt_BadAlphabet_BadAlphabet)) (ev_intB (ev_isS (ev_var rfl) ev_c hc x1 (hd.mono e0) (.own _) TE.kt_BadAlphabet_BadLetter))) (ev_intB (ev_isS (ev_var rfl) ev_c hc x1 (hd.mono e0) (.own _) TE.kt_BadAlphabet_BadRow))) (ev_intB (ev_isS (ev_var rfl) ev_c hc x1 (hd.mono e0) (.own _) TE.kt_BadAlphabet_BadTail))) rfl) fun H1 e1' => ?_
    have e1 := Ex.trans e0 e1'
    refine q_asg (v := .int 1) (ev_is (ev_add (ev_add (ev_add (ev_add (ev_var rfl) (ev_intB (ev_isS (ev_var rfl) ev_c hc x1 (hd.mono e1) (.own _) TE.kt_BadAlphabet_BadRank))) (ev_intB (ev_isS (ev_var rfl) ev_c hc x1 (hd.mono e1) (.own _) TE.kt_BadAlphabet_NotBits))) (ev_intB (ev_isS (ev_var rfl) ev_c hc x1 (hd.mono e1) (.own _) TE.kt_BadAlphabet_BadIndex))) (ev_intB (ev_isS (ev_var rfl) ev_c hc x1 (hd.mono e1) (.own _) TE.kt_BadAlphabet_BadStanding))) rfl) fun H2 e2' => ?_
    have e2 := Ex.trans e1 e2'
    refine q_asg (v := .int 1) (ev_is (ev_add (ev_add (ev_add (ev_var rfl) (ev_intB (ev_isS (ev_var rfl) ev_c hc x1 (hd.mono e2) (.own _) TE.kt_BadAlphabet_BadRule))) (ev_intB (ev_isS (ev_var rfl) ev_c hc x1 (hd.mono e2) (.own _) TE.kt_BadAlphabet_AlphabetsDiffer))) (ev_intB (ev_isS (ev_var rfl) ev_c hc x1 (hd.mono e2) (.own _) TE.kt_BadAlphabet_DoesNotComeBack))) rfl) fun H3 e3' => ?_
    have e3 := Ex.trans e2 e3'
    refine q_asg (v := .int 1) (ev_is (ev_add (ev_add (ev_add (ev_add (ev_var rfl) (ev_intB (ev_isS (ev_var rfl) ev_c hc x1 (hd.mono e3) (.own _) TE.kt_BadAlphabet_TooLarge))) (ev_intB (ev_isS (ev_var rfl) ev_c hc x1 (hd.mono e3) (.own _) TE.kt_BadAlphabet_NotWritten))) (ev_intB (ev_isS (ev_var rfl) ev_c hc x1 (hd.mono e3) (.own _) TE.kt_BadAlphabet_NoSuchText))) (ev_intB (ev_isS (ev_var rfl) ev_c hc x1 (hd.mono e3) (.own _) TE.kt_BadAlphabet_BadName))) rfl) fun H4 e4' => ?_
    have e4 := Ex.trans e3 e4'
    refine q_asg (v := .int 1) (ev_is (ev_add (ev_add (ev_add (ev_add (ev_var rfl) (ev_intB (ev_isS (ev_var rfl) ev_c hc x1 (hd.mono e4) (.own _) TE.kt_BadAlphabet_NameTaken))) (ev_intB (ev_isS (ev_var rfl) ev_c hc x1 (hd.mono e4) (.own _) TE.kt_BadAlphabet_NoName))) (ev_intB (ev_isS (ev_var rfl) ev_c hc x1 (hd.mono e4) (.own _) TE.kt_BadAlphabet_EmptyRing))) (ev_intB (ev_isS (ev_var rfl) ev_c hc x1 (hd.mono e4) (.own _) TE.kt_BadAlphabet_NotInLot))) rfl) fun H5 e5' => ?_
    have e5 := Ex.trans e4 e5'
    refine q_asg (v := .int 1) (ev_is (ev_add (ev_add (ev_add (ev_var rfl) (ev_intB (ev_isS (ev_var rfl) ev_c hc x1 (hd.mono e5) (.own _) TE.kt_BadAlphabet_BadBuild))) (ev_intB (ev_isS (ev_var rfl) ev_c hc x1 (hd.mono e5) (.own _) TE.kt_BadAlphabet_BadGrowth))) (ev_intB (ev_isS (ev_var rfl) ev_c hc x1 (hd.mono e5) (.own _) TE.kt_BadAlphabet_EmptyText))) rfl) fun H6 e6' => ?_
    have e6 := Ex.trans e5 e6'
    refine q_asg (v := .int 1) (ev_is (ev_add (ev_add (ev_var rfl) (ev_intB (ev_isS (ev_var rfl) ev_c hc x1 (hd.mono e6) (.own _) TE.kt_BadAlphabet_NothingToUndo))) (ev_intB (ev_isS (ev_var rfl) ev_c hc x1 (hd.mono e6) (.own _) TE.kt_BadAlphabet_NothingToRedo))) rfl) fun H7 e7' => ?_
    have e7 := Ex.trans e6 e7'
    exact s_ret (ev_is (ev_op (ev_var rfl) ev_c (rv_eq rfl)) rfl) fun H9 e9 => q H9 (Ex.trans e7 e9)
  · refine q_skip (et_is (et_or (et_not (et_B (ev_isS (ev_var rfl) ev_c hc x2 hd (.own _) TE.kt_BadLetter_PressError))) (fun _ => et_not (et_B (ev_isS (ev_var rfl) ev_c hc x2 hd (.ty _) TE.kt_BadLetter_VE)))) rfl) fun H0 e0 => ?_
    refine q_asg (v := .int 1) (ev_is (ev_add (ev_add (ev_add (ev_intB (ev_isS (ev_var rfl) ev_c hc x2 (hd.mono e0) (.own _) TE.kt_BadLetter_BadAlphabet)) (ev_intB (ev_isS (ev_var rfl) ev_c hc x2 (hd.mono e0) (.own _) TE.kt_BadLetter_BadLetter))) (ev_intB (ev_isS (ev_var rfl) ev_c hc x2 (hd.mono e0) (.own _) TE.kt_BadLetter_BadRow))) (ev_intB (ev_isS (ev_var rfl) ev_c hc x2 (hd.mono e0) (.own _) TE.kt_BadLetter_BadTail))) rfl) fun H1 e1' => ?_
    have e1 := Ex.trans e0 e1'
    refine q_asg (v := .int 1) (ev_is (ev_add (ev_add (ev_add (ev_add (ev_var rfl) (ev_intB (ev_isS (ev_var rfl) ev_c hc x2 (hd.mono e1) (.own _) TE.kt_BadLetter_BadRank))) (ev_intB (ev_isS (ev_var rfl) ev_c hc x2 (hd.mono e1) (.own _) TE.kt_BadLetter_NotBits))) (ev_intB (ev_isS (ev_var rfl) ev_c hc x2 (hd.mono e1) (.own _) TE.kt_BadLetter_BadIndex))) (ev_intB (ev_isS (ev_var rfl) ev_c hc x2 (hd.mono e1) (.own _) TE.kt_BadLetter_BadStanding))) rfl) fun H2 e2' => ?_
    have e2 := Ex.trans e1 e2'
    refine q_asg (v := .int 1) (ev_is (ev_add (ev_add (ev_add (ev_var rfl) (ev_intB (ev_isS (ev_var rfl) ev_c hc x2 (hd.mono e2) (.own _) TE.kt_BadLetter_BadRule))) (ev_intB (ev_isS (ev_var rfl) ev_c hc x2 (hd.mono e2) (.own _) TE.kt_BadLetter_AlphabetsDiffer))) (ev_intB (ev_isS (ev_var rfl) ev_c hc x2 (hd.mono e2) (.own _) TE.kt_BadLetter_DoesNotComeBack))) rfl) fun H3 e3' => ?_
    have e3 := Ex.trans e2 e3'
    refine q_asg (v := .int 1) (ev_is (ev_add (ev_add (ev_add (ev_add (ev_var rfl) (ev_intB (ev_isS (ev_var rfl) ev_c hc x2 (hd.mono e3) (.own _) TE.kt_BadLetter_TooLarge))) (ev_intB (ev_isS (ev_var rfl) ev_c hc x2 (hd.mono e3) (.own _) TE.kt_BadLetter_NotWritten))) (ev_intB (ev_isS (ev_var rfl) ev_c hc x2 (hd.mono e3) (.own _) TE.kt_BadLetter_NoSuchText))) (ev_intB (ev_isS (ev_var rfl) ev_c hc x2 (hd.mono e3) (.own _) TE.kt_BadLetter_BadName))) rfl) fun H4 e4' => ?_
    have e4 := Ex.trans e3 e4'
    refine q_asg (v := .int 1) (ev_is (ev_add (ev_add (ev_add (ev_add (ev_var rfl) (ev_intB (ev_isS (ev_var rfl) ev_c hc x2 (hd.mono e4) (.own _) TE.kt_BadLetter_NameTaken))) (ev_intB (ev_isS (ev_var rfl) ev_c hc x2 (hd.mono e4) (.own _) TE.kt_BadLetter_NoName))) (ev_intB (ev_isS (ev_var rfl) ev_c hc x2 (hd.mono e4) (.own _) TE.kt_BadLetter_EmptyRing))) (ev_intB (ev_isS (ev_var rfl) ev_c hc x2 (hd.mono e4) (.own _) TE.kt_BadLetter_NotInLot))) rfl) fun H5 e5' => ?_
    have e5 := Ex.trans e4 e5'
    refine q_asg (v := .int 1) (ev_is (ev_add (ev_add (ev_add (ev_var rfl) (ev_intB (ev_isS (ev_var rfl) ev_c hc x2 (hd.mono e5) (.own _) TE.kt_BadLetter_BadBuild))) (ev_intB (ev_isS (ev_var rfl) ev_c hc x2 (hd.mono e5) (.own _) TE.kt_BadLetter_BadGrowth))) (ev_intB (ev_isS (ev_var rfl) ev_c hc x2 (hd.mono e5) (.own _) TE.kt_BadLetter_EmptyText))) rfl) fun H6 e6' => ?_
    have e6 := Ex.trans e5 e6'
    refine q_asg (v := .int 1) (ev_is (ev_add (ev_add (ev_var rfl) (ev_intB (ev_isS (ev_var rfl) ev_c hc x2 (hd.mono e6) (.own _) TE.kt_BadLetter_NothingToUndo))) (ev_intB (ev_isS (ev_var rfl) ev_c hc x2 (hd.mono e6) (.own _) TE.kt_BadLetter_NothingToRedo))) rfl) fun H7 e7' => ?_
    have e7 := Ex.trans e6 e7'
    exact s_ret (ev_is (ev_op (ev_var rfl) ev_c (rv_eq rfl)) rfl) fun H9 e9 => q H9 (Ex.trans e7 e9)
end
end Ver
namespace Ver
open PySem PySem.Spec PyProof.Rows L2 Evl
section
variable {P : Program} {w : World} {K : PySem.W.Frag} {mg : Str → Option Value} {base : Heap} {C_Cut : Addr} {C_Round : Addr} {C_PressError : Addr} {C_BadAlphabet : Addr} {C_BadLetter : Addr} {C_BadRow : Addr} {C_BadTail : Addr} {C_BadRank : Addr} {C_NotBits : Addr} {C_BadIndex : Addr} {C_BadStanding : Addr} {C_BadRule : Addr} {C_AlphabetsDiffer : Addr} {C_DoesNotComeBack : Addr} {C_TooLarge : Addr} {C_NotWritten : Addr} {C_NoSuchText : Addr} {C_BadName : Addr} {C_NameTaken : Addr} {C_NoName : Addr} {C_EmptyRing : Addr} {C_NotInLot : Addr} {C_BadBuild : Addr} {C_BadGrowth : Addr} {C_EmptyText : Addr} {C_NothingToUndo : Addr} {C_NothingToRedo : Addr}
section
variable {σ : L2.St} {H : Hp} {te : TE}
theorem ev_xp {a C dd : Addr} {cls : Value} {d : Option Addr} {fs : List (Str × V)} {f : Str} {v : V} (h : Ev te σ H (.ref a)) (hc : cls = .ref C) (hd : d = some dd) (hx : H dd = some (.xd fs)) (hl : fs.lookup f = some v) : Ev (tXp a cls d C f te) σ H v := fun H1 e Q q =>
  h H1 e _ fun H2 e2 => ⟨rfl, hc, dd, fs, v, hd, (e.trans e2) _ _ hx, hl, q H2 e2⟩
theorem q_tryMake {D : Ends} {tz : TS} {C : Addr} {sp : Sp} {ta : TA} {vs : List V} {i : Nat} {Wout : WX} {l : List (Value × Suite)} (h : EvA ta σ H vs)
    (k : ∀ H1, Ex H H1 → ∀ x dx, H1 x = none → H1 dx = none → dx ≠ x → sp (.ref x :: vs) (L2.upd (L2.upd H1 dx (.own x)) x (.ins C dx [])) (fun v H2 => v = .non ∧ tz D σ H2) (fun cls d H' => wMas K i Wout { D with nx := tz D } l cls d σ H')) :
    tSeq (fun D σ H => tDrop (tMakeS C sp (WE (wMas K i Wout D l)) ta) D σ H) tz D σ H := h H (Ex.refl H) _ fun H1 e1 x dx h1 h2 h3 => k H1 e1 x dx h1 h2 h3
end
theorem dOk_some {dd : Addr} {fs : List (Str × V)} {H : Hp} (h : H dd = some (.xd fs)) : dOk (some dd) H := fun x e => by
  cases e
  exact ⟨fs, h⟩
theorem dOk_none {H : Hp} : dOk none H := fun x e => nomatch e
end
end Ver
namespace Ver
/-! ### the first letters -/
theorem beg_len (e : Nat → Nat) (n : Nat) : (beg e n).length = n := by
  unfold beg
  rw [List.length_map, List.length_range]
theorem beg_at {e : Nat → Nat} {n i : Nat} (h : i < n) : (beg e n)[i]? = some (e i) := by
  unfold beg
  rw [List.getElem?_map, List.getElem?_range h]
  rfl
end Ver
namespace Ver
open PySem PySem.Spec PyProof.Rows L2 Evl
/-! ### the number of a class, in order of appearance -/
theorem ex_least {P : Nat → Prop} (h : ∃ n, P n) : ∃ n, P n ∧ ∀ m, m < n → ¬ P m := by
  refine Classical.byContradiction fun hc => ?_
  have no : ∀ n m, m ≤ n → ¬ P m := by
    intro n
    induction n with
    | zero =>
      intro m hm p
      exact hc ⟨m, p, fun k hk => absurd hk (by omega)⟩
    | succ n ih =>
      intro m hm p
      exact hc ⟨m, p, fun k hk => ih k (by omega)⟩
  obtain ⟨n, p⟩ := h
  exact no n n (Nat.le_refl n) p
section
variable {κ : Type} [DecidableEq κ]
noncomputable def lf (f : Nat → κ) (i : Nat) : Nat := Classical.choose (ex_least (P := fun b => f b = f i) ⟨i, rfl⟩)
theorem lf_eq (f : Nat → κ) (i : Nat) : f (lf f i) = f i := (Classical.choose_spec (ex_least (P := fun b => f b = f i) ⟨i, rfl⟩)).1
theorem lf_min {f : Nat → κ} {i b : Nat} (h : f b = f i) : lf f i ≤ b := Nat.le_of_not_lt fun c => (Classical.choose_spec (ex_least (P := fun b => f b = f i) ⟨i, rfl⟩)).2 b c h
theorem lf_le (f : Nat → κ) (i : Nat) : lf f i ≤ i := lf_min rfl
noncomputable def nmb (f : Nat → κ) (i : Nat) : Nat := dif f (lf f i)
theorem dif_step (f : Nat → κ) (n : Nat) : dif f n ≤ dif f (n + 1) := by
  show dif f n ≤ dif f n + _
  omega
theorem dif_up (f : Nat → κ) {n m : Nat} (h : n ≤ m) : dif f n ≤ dif f m := by
  induction h with
  | refl => exact Nat.le_refl _
  | step _ ih => exact Nat.le_trans ih (dif_step f _)
theorem dif_new {f : Nat → κ} {n : Nat} (h : ∀ b, b < n → f b ≠ f n) : dif f (n + 1) = dif f n + 1 := by
  show dif f n + (if ∃ b, b < n ∧ f b = f n then 0 else 1) = _
  rw [if_neg]
  rintro ⟨b, hb, e⟩
  exact h b hb e
theorem dif_old {f : Nat → κ} {n : Nat} (h : ∃ b, b < n ∧ f b = f n) : dif f (n + 1) = dif f n := by
  show dif f n + (if ∃ b, b < n ∧ f b = f n then 0 else 1) = _
  rw [if_pos h, Nat.add_zero]
theorem lf_new (f : Nat → κ) (i : Nat) : ∀ b, b < lf f i → f b ≠ f (lf f i) := fun b hb e => by
  have e2 := e.trans (lf_eq f i)
  have := lf_min e2
  omega
theorem nmb_iff {f : Nat → κ} {a b : Nat} : nmb f a = nmb f b ↔ f a = f b := by
  constructor
  · intro h
    have go : ∀ {a b : Nat}, nmb f a = nmb f b → ¬ lf f a < lf f b := by
      intro a b h c
      have h1 := dif_new (lf_new f a)
      have h2 := dif_up f (show lf f a + 1 ≤ lf f b by omega)
      unfold nmb at h
      omega
    have h1 := go h
    have h2 := go h.symm
    rw [← lf_eq f a, ← lf_eq f b, show lf f a = lf f b by omega]
  · intro h
    have h1 := lf_min (f := f) (i := a) (b := lf f b) ((lf_eq f b).trans h.symm)
    have h2 := lf_min (f := f) (i := b) (b := lf f a) ((lf_eq f a).trans h)
    unfold nmb
    rw [show lf f a = lf f b by omega]
theorem nmb_new {f : Nat → κ} {i : Nat} (h : ∀ b, b < i → f b ≠ f i) : nmb f i = dif f i := by
  have h1 := lf_le f i
  have h2 : ¬ lf f i < i := fun c => h _ c (lf_eq f i)
  unfold nmb
  rw [show lf f i = i by omega]
theorem nmb_lt {f : Nat → κ} {a n : Nat} (h : a < n) : nmb f a < dif f n := by
  have h1 := dif_new (lf_new f a)
  have h2 := lf_le f a
  have h3 := dif_up f (show lf f a + 1 ≤ n by omega)
  unfold nmb
  omega
theorem nmb_top {f : Nat → κ} : ∀ n, 0 < n → ∃ a, a < n ∧ nmb f a + 1 = dif f n
  | 0, h => absurd h (Nat.lt_irrefl 0)
  | n + 1, _ => by
    by_cases c : ∃ b, b < n ∧ f b = f n
    · obtain ⟨b, hb, e⟩ := c
      obtain ⟨a, ha, q⟩ := nmb_top (f := f) n (by omega)
      exact ⟨a, by omega, by rw [dif_old ⟨b, hb, e⟩]; exact q⟩
    · have hn : ∀ b, b < n → f b ≠ f n := fun b hb e => c ⟨b, hb, e⟩
      exact ⟨n, by omega, by rw [nmb_new hn, dif_new hn]⟩
end
/-! ### the dict of classes -/
def kc (p : Nat × Nat) : List Key := [Sum.inr (SX.S [p.1]), Sum.inl (p.2 : Int)]
def kp (p : Nat × Nat) : List V := [tx [p.1], .int (p.2 : Int)]
theorem kc_kp (p : Nat × Nat) : (kc p).map kV = kp p := rfl
theorem kc_inj {p q : Nat × Nat} (h : kc p = kc q) : p = q := by
  obtain ⟨a, b⟩ := p
  obtain ⟨c, d⟩ := q
  have h1 := (List.cons.inj h).1
  have h2 := (List.cons.inj (List.cons.inj h).2).1
  have e1 := SX.S_inj (Sum.inr.inj h1)
  have e2 : (b : Int) = (d : Int) := Sum.inl.inj h2
  have e3 : a = c := (List.cons.inj e1).1
  have e4 : b = d := by omega
  rw [e3, e4]
structure DcAt (kvs : List (List Key × V)) (f : Nat → Nat × Nat) (i : Nat) : Prop where
  len : kvs.length = dif f i
  there : ∀ b, b < i → valV kvs (kc (f b)) = some (.int (nmb f b : Int))
  not : ∀ k, (∀ b, b < i → f b ≠ k) → valV kvs (kc k) = none
theorem DcAt.nil {f : Nat → Nat × Nat} : DcAt [] f 0 := ⟨rfl, fun b h => absurd h (Nat.not_lt_zero _), fun _ _ => rfl⟩
theorem DcAt.old {kvs : List (List Key × V)} {f : Nat → Nat × Nat} {i : Nat} (h : DcAt kvs f i) (c : ∃ b, b < i ∧ f b = f i) : DcAt kvs f (i + 1) ∧ valV kvs (kc (f i)) = some (.int (nmb f i : Int)) := by
  obtain ⟨b, hb, e⟩ := c
  have hv : valV kvs (kc (f i)) = some (.int (nmb f i : Int)) := by
    rw [← e, h.there b hb, nmb_iff.mpr e]
  refine ⟨⟨by rw [dif_old ⟨b, hb, e⟩, h.len], fun a ha => ?_, fun k hk => h.not k fun a ha => hk a (by omega)⟩, hv⟩
  by_cases d : a < i
  · exact h.there a d
  · rw [show a = i by omega]
    exact hv
theorem DcAt.put {kvs : List (List Key × V)} {f : Nat → Nat × Nat} {i : Nat} (h : DcAt kvs f i) (c : ∀ b, b < i → f b ≠ f i) (hn : valV kvs (kc (f i)) = none) : DcAt (putK kvs (kc (f i)) (.int (dif f i : Int))) f (i + 1) := by
  refine ⟨?_, fun a ha => ?_, fun k hk => ?_⟩
  · rw [putK_new _ hn, List.length_append, h.len, dif_new c]
    rfl
  · rw [valV_put]
    by_cases d : a < i
    · rw [if_neg fun e => c a d (kc_inj e), h.there a d]
    · rw [show a = i by omega, if_pos rfl, nmb_new c]
  · rw [valV_put, if_neg fun e => hk i (by omega) (kc_inj e).symm]
    exact h.not k fun a ha => hk a (by omega)
end Ver
namespace Ver
theorem rpl3_at {r : List Nat} : ∀ (m j : Nat), j < r.length * m → (List.replicate m r).flatten[j]? = some (rd r j)
  | 0, j, h => by
    rw [Nat.mul_zero] at h
    exact absurd h (Nat.not_lt_zero _)
  | m + 1, j, h => by
    rw [List.replicate_succ, List.flatten_cons]
    by_cases c : j < r.length
    · rw [List.getElem?_append_left c, rd_low c, take_getD c]
    · rw [List.getElem?_append_right (by omega), rpl3_at m _ (by rw [Nat.mul_succ] at h; omega)]
      obtain ⟨k, rfl⟩ := Nat.exists_eq_add_of_le (show r.length ≤ j by omega)
      rw [Nat.add_sub_cancel_left, Nat.add_comm, rd_len]
theorem rpl3_len {r : List Nat} (m : Nat) : (List.replicate m r).flatten.length = r.length * m := by
  induction m with
  | zero => rfl
  | succ m ih =>
    rw [List.replicate_succ, List.flatten_cons, List.length_append, ih, Nat.mul_succ]
    omega
/-- head and rings -/
theorem txt3_at {h r t : List Nat} (ht : ∀ j, j < t.length → t[j]? = some (rd r j)) {j : Nat} (hj : j < h.length + t.length) : (h ++ t)[j]? = some (ex h r j) := by
  by_cases c : j < h.length
  · rw [List.getElem?_append_left c, ex_head c, take_getD c]
  · rw [List.getElem?_append_right (by omega), ex_rd' (by omega), ht _ (by omega)]
end Ver
namespace Ver
open PySem PySem.Spec PyProof.Rows L2 Evl
section
variable {P : Program} {w : World} {K : PySem.W.Frag} {mg : Str → Option Value} {base : Heap} {C_Cut : Addr} {C_Round : Addr}
/-! ### Round.beginning -/
def spBeg (C : Addr) : Sp := fun vs H Q _ => ∃ (p : Addr) (e : Nat → Nat) (N n : Nat), vs = [.ref p, .int (n : Int)] ∧ RndAt C H p e N ∧ N ≤ 1000 ∧ n ≤ 25000 ∧ RetV (tx (beg e n)) H Q
theorem beg_is {h r : List Nat} {e : Nat → Nat} {n : Nat} (hr : 0 < r.length) (he : ∀ i, ex h r i = e i) : (h ++ (List.replicate (n / r.length + 1) r).flatten).take n = beg e n := by
  have hl := rpl3_len (r := r) (n / r.length + 1)
  have hd := Nat.lt_mul_div_succ n hr
  refine List.ext_getElem? fun i => ?_
  by_cases c : i < n
  · rw [List.getElem?_take_of_lt c, beg_at c, ← he i]
    exact txt3_at (fun j hj => rpl3_at _ j (by rw [hl] at hj; exact hj)) (by rw [hl]; omega)
  · rw [List.getElem?_eq_none (by rw [List.length_take]; omega), List.getElem?_eq_none (by rw [beg_len]; omega)]
theorem beg_small {n l : Nat} (hl : 0 < l) (hl2 : l ≤ 1000) (hn : n ≤ 25000) : n / l + 1 ≤ 100000 ∧ l * (n / l + 1) ≤ 26000 := by
  have h1 := Nat.div_le_self n l
  have h2 := Nat.mul_div_le n l
  rw [Nat.mul_add]
  omega
theorem beg_ok {f : Addr} {fd : FuncData} (F : Fun K "beginning" "Round.beginning" s_Round_beginning f fd) (T : Top K mg C_Cut C_Round) : FnOk P w K mg base CX0 1 f fd ["self", "length"] (spBeg C_Round) := by
  refine F.ok S_Round_beginning (fun vs H Q E h => ?_) (fun cdv A outer s H vs Q E hr h => ?_)
  · obtain ⟨p, e, N, n, rfl, _⟩ := h
    rfl
  obtain ⟨p, e, N, n, rfl, hR, hN, hn, q⟩ := h
  refine ⟨_, (pss_one
    (ps_ret (pe_slice sl_str (pe_op op_add_str (pe_fld (pv 0) rfl) (pe_op op_mulS (pe_fld (pv 0) rfl) (pe_op op_add (pe_op op_fdivW (pv 1) (pe_callB call_len_str rfl T.z_len PySem.boot_len (pa_cons (pe_fld (pv 0) rfl) pa_nil))) pe_int))) po_none (po_some (pv 1))))), ?_⟩
  obtain ⟨dx, al, h, r, ip, hl, rp, same, _, _⟩ := hR.ex
  have cl := T.cl_Round
  obtain ⟨s1, s2⟩ := beg_small rp (by omega) hn
  have hlen := rpl3_len (r := r) (n / r.length + 1)
  refine s_ret (v := tx (beg e n)) (ev_is (ev_slS (by rw [List.length_append, hlen]; omega) (ev_catS (by rw [hlen]; omega) (ev_fld (ev_var rfl) ip cl T.n_Round_head rf_head) (ev_mulS (n := n / r.length + 1) s1 (by omega) (ev_fld (ev_var rfl) ip cl T.n_Round_ring rf_ring)
    (ev_is (ev_add (ev_div (j := (r.length : Int)) (by omega) (by omega) (ev_var rfl) (ev_lenS (l := r) (by omega) (ev_fld (ev_var rfl) ip cl T.n_Round_ring rf_ring))) ev_c) (by rw [Int.natCast_add, Int.natCast_ediv]; rfl)))) eo_none (eo_some (i := (n : Int)) (ev_var rfl))) (by rw [cutL_to, beg_is rp same])) fun H1 e1 => q H1 e1
theorem has_beg (F : AtM K C_Round "beginning" "Round.beginning" s_Round_beginning) (T : Top K mg C_Cut C_Round) : HasM P w K mg base C_Round "beginning" ["self", "length"] 1 (spBeg C_Round) := by
  obtain ⟨f, fd, F, M⟩ := F.ex
  exact ⟨f, fd, beg_ok F T, F.binds fun _ _ _ _ _ _ us hl => match us, hl with | [_, _], _ => rfl, M⟩
end
end Ver
namespace Ver
open PySem PySem.Spec PyProof.Rows L2 Evl
theorem bad1_ex {al v : List Nat} (h : ¬ ∀ c ∈ v, c ∈ al) : ∃ k, bad1 al v k := by
  refine ⟨_, rfl, ?_⟩
  refine Classical.byContradiction fun hn => h fun c hc => ?_
  have e := List.takeWhile_append_dropWhile (p := inL al) (l := v)
  have hl := congrArg List.length e
  rw [List.length_append] at hl
  have hd : v.dropWhile (inL al) = [] := List.eq_nil_of_length_eq_zero (by omega)
  rw [hd, List.append_nil] at e
  rw [← e] at hc
  exact of_decide_eq_true (tw_all v c hc)
section
variable {K : PySem.W.Frag} {σ : L2.St} {H : Hp} {ta tb : TE} {xs ys : List V}
/-- two new lists of the same data -/
theorem ev_eqLL {d : PyData} (hd : SeqAt.shaped d = true) (ha : EvL ta σ H xs) (hb : EvL tb σ H xs) (h : ∀ (p : Addr) (H1 : Hp), H1 p = some (.lst xs) → Dp K H1 (.ref p) d) : Ev (tOp (rEqD K) ta tb) σ H (.bl true) := fun H0 e Q q =>
  ha H0 e _ fun p H1 _ e1 g1 => hb H1 (e.trans e1) _ fun r H2 _ e2 g2 => rv_eqSame hd (fun H3 e3 => h p H3 (e3 _ _ (e2 _ _ g1))) (fun H3 e3 => h r H3 (e3 _ _ g2)) H2 (Ex.refl H2) Q fun H4 e4 => q H4 ((e1.trans e2).trans e4)
theorem ev_neLL {d : PyData} (hd : SeqAt.shaped d = true) (ha : EvL ta σ H xs) (hb : EvL tb σ H xs) (h : ∀ (p : Addr) (H1 : Hp), H1 p = some (.lst xs) → Dp K H1 (.ref p) d) : Ev (tOp (rNeD K) ta tb) σ H (.bl false) := fun H0 e Q q =>
  ha H0 e _ fun p H1 _ e1 g1 => hb H1 (e.trans e1) _ fun r H2 _ e2 g2 => rv_neSame hd (fun H3 e3 => h p H3 (e3 _ _ (e2 _ _ g1))) (fun H3 e3 => h r H3 (e3 _ _ g2)) H2 (Ex.refl H2) Q fun H4 e4 => q H4 ((e1.trans e2).trans e4)
end
def dA (s : Str) (x : PyData) : PyData := .list [.str s, .bool true, x]
theorem dA_str {s : Str} {u : List Nat} (hs : PyData.canLay0 (.str s) = true) (hu : ∀ c ∈ u, c < 1114112) : SeqAt.shaped (dA s (.str (SX.S u))) = true := shaped_lst (n := 0) (fun d hd => by
  have hx := lay_tx hu
  simp only [List.mem_cons, List.not_mem_nil, or_false] at hd
  rcases hd with rfl | rfl | rfl
  · exact ⟨hs, by simp [PyData.depth]⟩
  · exact ⟨by simp [PyData.canLay0], by simp [PyData.depth]⟩
  · exact hx) (by decide)
theorem dA_int {s : Str} {n : Int} (hs : PyData.canLay0 (.str s) = true) : SeqAt.shaped (dA s (.int n)) = true := shaped_lst (n := 0) (fun d hd => by
  simp only [List.mem_cons, List.not_mem_nil, or_false] at hd
  rcases hd with rfl | rfl | rfl
  · exact ⟨hs, by simp [PyData.depth]⟩
  · exact ⟨by simp [PyData.canLay0], by simp [PyData.depth]⟩
  · exact ⟨by simp [PyData.canLay0], by simp [PyData.depth]⟩) (by decide)
theorem blk_low {al : List Nat} (hA : Alf al) {v : List Nat} (hv : ∀ c ∈ v, c ∈ al) : ∀ c ∈ blk al (cutW v), c = 48 ∨ c = 49 := by
  have ko := cut_ok (al := al) v hv
  have ok : RowsOk al (cutW v).1 := ko.ok
  have low : (cutW v).2 ≤ (cutW v).1.length := ko.low
  generalize cutW v = st at *
  obtain ⟨rs, t⟩ := st
  dsimp only at ok low
  intro c hc
  rw [← bnums_flat] at hc
  obtain ⟨l, hl, hcl⟩ := List.mem_flatten.mp hc
  unfold bnums at hl
  rcases List.mem_append.mp hl with hl | hl
  · obtain ⟨k, _, rfl⟩ := List.mem_map.mp hl
    exact (nbl_ok (num_lt hA.asc hA.pos ok)).digs c hcl
  · rw [List.mem_singleton.mp hl] at hcl
    exact (nbl_ok (n := t) (m := rs.length + 1) (by omega)).digs c hcl
section
variable {P : Program} {w : World} {K : PySem.W.Frag} {mg : Str → Option Value} {base : Heap} {C_Cut : Addr} {C_Round : Addr} {C_PressError : Addr} {C_BadAlphabet : Addr} {C_BadLetter : Addr} {C_BadRow : Addr} {C_BadTail : Addr} {C_BadRank : Addr} {C_NotBits : Addr} {C_BadIndex : Addr} {C_BadStanding : Addr} {C_BadRule : Addr} {C_AlphabetsDiffer : Addr} {C_DoesNotComeBack : Addr} {C_TooLarge : Addr} {C_NotWritten : Addr} {C_NoSuchText : Addr} {C_BadName : Addr} {C_NameTaken : Addr} {C_NoName : Addr} {C_EmptyRing : Addr} {C_NotInLot : Addr} {C_BadBuild : Addr} {C_BadGrowth : Addr} {C_EmptyText : Addr} {C_NothingToUndo : Addr} {C_NothingToRedo : Addr}
/-! ### _law_answer -/
def ansOf (al v : List Nat) (s : Str) (x : V) : Prop := (Alf al ∧ (∀ c ∈ v, c ∈ al) ∧ s = ("told" : Str) ∧ x = tx (blk al (cutW v))) ∨ (¬ Alf al ∧ s = ("BadAlphabet" : Str) ∧ x = tx al) ∨ (Alf al ∧ ∃ k, bad1 al v k ∧ s = ("BadLetter" : Str) ∧ x = .int (k : Int))
def spAns : Sp := fun vs H Q _ => ∃ (al v : List Nat) (s : Str) (x : V), vs = [tx al, tx v] ∧ al.length ≤ 1000 ∧ v.length ≤ 2000 ∧ ansOf al v s x ∧ RetL [.str s, .bl true, x] H Q
theorem has_ans (F : At K mg "_law_answer" s__law_answer) (T : Top K mg C_Cut C_Round) (TE : ETop K mg C_PressError C_BadAlphabet C_BadLetter C_BadRow C_BadTail C_BadRank C_NotBits C_BadIndex C_BadStanding C_BadRule C_AlphabetsDiffer C_DoesNotComeBack C_TooLarge C_NotWritten C_NoSuchText C_BadName C_NameTaken C_NoName C_EmptyRing C_NotInLot C_BadBuild C_BadGrowth C_EmptyText C_NothingToUndo C_NothingToRedo) (GE_BadAlphabet : Er_BadAlphabet P w K mg base C_BadAlphabet) (GE_BadLetter : Er_BadLetter P w K mg base C_BadLetter)
    (h1 : HasX P w K mg base "press" s_press ["alphabet", "text"] 8 (fun vs H Q E => spPress vs H Q E ∨ spPressB C_BadAlphabet C_BadLetter vs H Q E)) (h2 : HasP P w K mg base "_law_kin" ["e"] 1 (spKin2 C_BadAlphabet C_BadLetter)) (h3 : HasP P w K mg base "_law_whole" ["value"] 1 (fun _ _ _ => spWhole)) : Has P w K mg base "_law_answer" s__law_answer ["signs", "word"] 9 spAns := by
  obtain ⟨f, fd, F, m⟩ := F.ex
  obtain ⟨f1, fd1, _, GX_press, b_press, m_press, k_press⟩ := h1
  obtain ⟨f2, fd2, GP__law_kin, b__law_kin, m__law_kin, k__law_kin⟩ := h2
  obtain ⟨f3, fd3, GP__law_whole, b__law_whole, m__law_whole, k__law_whole⟩ := h3
  refine ⟨f, fd, F, F.ok S__law_answer (fun vs H Q E h => ?_) (fun cdv A outer s H vs Q E hr h => ?_), F.binds fun _ _ _ _ _ _ us hl => match us, hl with | [_, _], _ => rfl, m, F.kp⟩
  · obtain ⟨al, v, s, x, rfl, _⟩ := h
    rfl
  obtain ⟨al, v, sg, x, rfl, z1, z2, ans, q⟩ := h
  refine ⟨_, (pss_one
    (ps_try_mas (i := 3) rfl rfl S__law_answer.nd rfl rfl takes0 (fun W pn xe tk _ => (by exact (pss_cons
    (ps_set (i := 2) S__law_answer.nd rfl (Or.inl rfl) (pe_callS GX_press (hr.mono (by decide)) rfl m_press k_press b_press (fun σ => passAt tk σ) (pa_cons (pv 0) (pa_cons (pv 1) pa_nil))))
    (pss_one
    (ps_ret (pe_lst (pa_cons pe_str (pa_cons (by exact (pe_callB (id := "isinstance") (call_isiK (K := K) rfl) rfl T.z_isinstance (by decide +kernel) (pa_cons (pv 2) (pa_cons (pe_bltn (v := .ty "str") rfl T.z_str (by decide +kernel) rfl) pa_nil)))) (pa_cons (pv 2) pa_nil))))))))) (by exact (HdsAs.cons ⟨rfl, by decide, .inl TE.c_PressError⟩ (fun a oe cls d pn hz hf => (by exact (pss_cons
    (ps_if (pt_not (pt_val (by exact pe_callP (p := (a, oe)) (a := a) rfl GP__law_kin (roomM (hr.mono (j := 1) (by decide))) List.mem_cons_self hz hf rfl m__law_kin k__law_kin b__law_kin (pa_cons (pv 3) pa_nil)))) (pss_one
    (ps_ret (pe_lst (pa_cons pe_str pa_nil)))) pss_nil)
    (pss_cons
    (ps_if (pt_val (by exact (pe_callB (id := "isinstance") (call_isS (p := (a, oe)) (a := a) (K := K) rfl rfl List.mem_cons_self hz hf) rfl T.z_isinstance (by decide +kernel) (pa_cons (pv 3) (pa_cons (pe_glob (v := .ref C_BadAlphabet) rfl TE.c_BadAlphabet rfl) pa_nil))))) (pss_one
    (ps_ret (pe_lst (pa_cons pe_str (pa_cons (by exact (pe_callB (id := "isinstance") (call_isiK (K := K) rfl) rfl T.z_isinstance (by decide +kernel) (pa_cons (by exact pe_xpS (p := (a, oe)) (a := a) (K := K) rfl rfl List.mem_cons_self hz hf (pv 3)) (pa_cons (pe_bltn (v := .ty "str") rfl T.z_str (by decide +kernel) rfl) pa_nil)))) (pa_cons (by exact pe_xpS (p := (a, oe)) (a := a) (K := K) rfl rfl List.mem_cons_self hz hf (pv 3)) pa_nil)))))) pss_nil)
    (pss_cons
    (ps_if (pt_val (by exact (pe_callB (id := "isinstance") (call_isS (p := (a, oe)) (a := a) (K := K) rfl rfl List.mem_cons_self hz hf) rfl T.z_isinstance (by decide +kernel) (pa_cons (pv 3) (pa_cons (pe_glob (v := .ref C_BadLetter) rfl TE.c_BadLetter rfl) pa_nil))))) (pss_one
    (ps_ret (pe_lst (pa_cons pe_str (pa_cons (by exact pe_callP (p := (a, oe)) (a := a) rfl GP__law_whole (roomM (hr.mono (j := 1) (by decide))) List.mem_cons_self hz hf rfl m__law_whole k__law_whole b__law_whole (pa_cons (by exact pe_xpS (p := (a, oe)) (a := a) (K := K) rfl rfl List.mem_cons_self hz hf (pv 3)) pa_nil)) (pa_cons (by exact pe_xpS (p := (a, oe)) (a := a) (K := K) rfl rfl List.mem_cons_self hz hf (pv 3)) pa_nil)))))) pss_nil)
    (pss_one
    (ps_ret (pe_lst (pa_cons pe_str pa_nil))))))))) HdsAs.nil)))), ?_⟩
  have xA := GE_BadAlphabet.ec
  have xL := GE_BadLetter.ec
  refine q_asgS (vs := [tx al, tx v]) (ea_cons (ev_var rfl) (ea_cons (ev_var rfl) ea_nil)) fun H1 e1 => ?_
  rcases ans with ⟨hA, hv, rfl, rfl⟩ | ⟨hA, rfl, rfl⟩ | ⟨hA, k, hb, rfl, rfl⟩
  · refine .inl ⟨al, v, rfl, hA, hv, by omega, fun H2 e2 => ?_⟩
    exact s_retL (xs := [.str ("told" : Str), .bl true, tx (blk al (cutW v))]) (el_lst (ea_cons ev_c (ea_cons (ev_cb (ea_cons (ev_var rfl) (ea_cons ev_c ea_nil)) (rc_isiS (b := true) (by decide +kernel))) (ea_cons (ev_var rfl) ea_nil))) (by show 3 ≤ 100000; decide)) fun l H3 hl e3 g3 => q l H3 (fresh_back (e1.trans e2) hl) ((e1.trans e2).trans e3) g3
  · refine .inr ⟨al, v, rfl, by omega, by omega, .inl ⟨hA, fun d H2 e2 hd h2 => ?_⟩⟩
    refine ⟨true, TE.ex_BadAlphabet_PressError, fun _ a ha => ?_, fun z => (nomatch z)⟩
    have dd := dOk_some h2
    refine q_skip (et_is (et_not (et_B (ev_call (z := .bl true) (ea_cons (ev_var rfl) ea_nil) (fun H3 e3 Q' q' E' => ⟨rfl, .inl rfl, dd.mono e3, q'⟩)))) rfl) fun H3 e3 => ?_
    refine q_take (et_B (ev_isS (ev_var rfl) ev_c rfl xA (dd.mono e3) (.own _) TE.kt_BadAlphabet_BadAlphabet)) fun H4 e4 => ?_
    have h4 := e4 _ _ (e3 _ _ h2)
    have ex4 := ((e1.trans e2).trans e3).trans e4
    have xp : ∀ {σ : L2.St} {H' : Hp}, Ex H4 H' → σ[3]? = some (some (.ref a)) → Ev (tXpS K a (.ref C_BadAlphabet) (some d) ("alphabet" : Str) (tVar 3)) σ H' (tx al) := fun e hs => ev_xpS (ev_var hs) rfl GE_BadAlphabet.xf TE.nf_BadAlphabet_alphabet rfl (e _ _ h4) rfl
    exact s_retL (xs := [.str ("BadAlphabet" : Str), .bl true, tx al]) (el_lst (ea_cons ev_c (ea_cons (ev_cb (ea_cons (xp (Ex.refl H4) rfl) (ea_cons ev_c ea_nil)) (rc_isiS (b := true) (by decide +kernel))) (ea_cons (xp (Ex.refl H4) rfl) ea_nil))) (by show 3 ≤ 100000; decide)) fun l H5 hl e5 g5 => q l H5 (fresh_back ex4 hl) (ex4.trans e5) g5
  · refine .inr ⟨al, v, rfl, by omega, by omega, .inr ⟨hA, k, hb, fun d H2 e2 hd h2 => ?_⟩⟩
    refine ⟨true, TE.ex_BadLetter_PressError, fun _ a ha => ?_, fun z => (nomatch z)⟩
    have dd := dOk_some h2
    refine q_skip (et_is (et_not (et_B (ev_call (z := .bl true) (ea_cons (ev_var rfl) ea_nil) (fun H3 e3 Q' q' E' => ⟨rfl, .inr rfl, dd.mono e3, q'⟩)))) rfl) fun H3 e3 => ?_
    refine q_skip (et_B (ev_isS (ev_var rfl) ev_c rfl xL (dd.mono e3) (.own _) TE.kt_BadLetter_BadAlphabet)) fun H4 e4 => ?_
    refine q_take (et_B (ev_isS (ev_var rfl) ev_c rfl xL (dd.mono (e3.trans e4)) (.own _) TE.kt_BadLetter_BadLetter)) fun H5 e5 => ?_
    have h5 := e5 _ _ (e4 _ _ (e3 _ _ h2))
    have ex5 := (((e1.trans e2).trans e3).trans e4).trans e5
    have xp : ∀ {σ : L2.St} {H' : Hp}, Ex H5 H' → σ[3]? = some (some (.ref a)) → Ev (tXpS K a (.ref C_BadLetter) (some d) ("index" : Str) (tVar 3)) σ H' (.int (k : Int)) := fun e hs => ev_xpS (ev_var hs) rfl GE_BadLetter.xf TE.nf_BadLetter_index rfl (e _ _ h5) rfl
    exact s_retL (xs := [.str ("BadLetter" : Str), .bl true, .int (k : Int)]) (el_lst (ea_cons ev_c (ea_cons (ev_call (z := .bl true) (ea_cons (xp (Ex.refl H5) rfl) ea_nil) (fun H3 e3 Q' q' E' => ⟨(k : Int), rfl, q'⟩)) (ea_cons (xp (Ex.refl H5) rfl) ea_nil))) (by show 3 ≤ 100000; decide)) fun l H6 hl e6 g6 => q l H6 (fresh_back ex5 hl) (ex5.trans e6) g6
theorem sl_ans {al v : List Nat} {s : Str} {x : V} {H : Hp} (h1 : al.length ≤ 1000) (h2 : v.length ≤ 2000) (h : ansOf al v s x) : SpL spAns ([tx al, tx v] ++ []) H [.str s, .bl true, x] := fun H1 e Q q E => ⟨al, v, s, x, rfl, h1, h2, h, q⟩
theorem sl_ns {al v : List Nat} {H : Hp} (hA : Alf al) (hv : ∀ c ∈ v, c ∈ al) (hz : v.length ≤ 2000) : SpL spNs ([tx al, tx v] ++ []) H ((bnums al (cutW v)).map tx) := fun H1 e Q q E => ⟨al, v, rfl, hA, hv, hz, q⟩
theorem blk_len2 {al v : List Nat} (hA : Alf al) (hv : ∀ c ∈ v, c ∈ al) (hz : v.length ≤ 20100) : (blk al (cutW v)).length ≤ 342000 := by
  have ko := cut_ok (al := al) v hv
  have few : (cutW v).1.length ≤ v.length := ko.few
  rw [blk_cut_len hA hv]
  exact bln_le hA.six hA.pos (by omega)
/-! ### _law_judged -/
def spJud : Sp := fun vs H Q _ => ∃ al v : List Nat, vs = [tx al, tx v] ∧ Alf al ∧ v.length ≤ 2000 ∧ RetV (.bl true) H Q
theorem has_jud (F : At K mg "_law_judged" s__law_judged) (T : Top K mg C_Cut C_Round) (h1 : Has P w K mg base "_law_first_strange" s__law_first_strange ["signs", "word"] 1 spFs) (h2 : Has P w K mg base "_law_answer" s__law_answer ["signs", "word"] 9 spAns) (h3 : Has P w K mg base "_law_numbers" s__law_numbers ["signs", "word"] 3 spNs) : Has P w K mg base "_law_judged" s__law_judged ["signs", "word"] 10 spJud := by
  obtain ⟨f, fd, F, m⟩ := F.ex
  obtain ⟨f1, fd1, _, G__law_first_strange, b__law_first_strange, m__law_first_strange, k__law_first_strange⟩ := h1
  obtain ⟨f2, fd2, _, G__law_answer, b__law_answer, m__law_answer, k__law_answer⟩ := h2
  obtain ⟨f3, fd3, _, G__law_numbers, b__law_numbers, m__law_numbers, k__law_numbers⟩ := h3
  refine ⟨f, fd, F, F.ok S__law_judged (fun vs H Q E h => ?_) (fun cdv A outer s H vs Q E hr h => ?_), F.binds fun _ _ _ _ _ _ us hl => match us, hl with | [_, _], _ => rfl, m, F.kp⟩
  · obtain ⟨al, v, rfl, _⟩ := h
    rfl
  obtain ⟨al, v, rfl, hA, hz, q⟩ := h
  refine ⟨_, (pss_cons
    (ps_set (i := 2) S__law_judged.nd rfl (Or.inl rfl) (pe_call G__law_first_strange (hr.mono (by decide)) rfl m__law_first_strange k__law_first_strange b__law_first_strange .nil pass0 (pa_cons (pv 0) (pa_cons (pv 1) pa_nil))))
    (pss_cons
    (ps_if (pt_cmpR op_lt (pv 2) pe_int (nomark _)) (pss_one
    (ps_ret (pe_cmpR (op_eqD hr.units) (pe_call G__law_answer (hr.mono (by decide)) rfl m__law_answer k__law_answer b__law_answer .nil pass0 (pa_cons (pv 0) (pa_cons (pv 1) pa_nil))) (pe_lst (pa_cons pe_str (pa_cons pe_bl (pa_cons (pe_join pe_str (pe_call G__law_numbers (hr.mono (by decide)) rfl m__law_numbers k__law_numbers b__law_numbers .nil pass0 (pa_cons (pv 0) (pa_cons (pv 1) pa_nil)))) pa_nil)))) (nomark _)))) pss_nil)
    (pss_one
    (ps_ret (pe_cmpR (op_eqD hr.units) (pe_call G__law_answer (hr.mono (by decide)) rfl m__law_answer k__law_answer b__law_answer .nil pass0 (pa_cons (pv 0) (pa_cons (pv 1) pa_nil))) (pe_lst (pa_cons pe_str (pa_cons pe_bl (pa_cons (pv 2) pa_nil)))) (nomark _)))))), ?_⟩
  have h6 := hA.six
  by_cases hv : ∀ c ∈ v, c ∈ al
  · refine q_asg (v := .int (-1)) (ev_call (z := .int (-1)) (ea_cons (ev_var rfl) (ea_cons (ev_var rfl) ea_nil)) (fun H3 e3 Q' q' E' => ⟨al, v, -1, rfl, by omega, .inl ⟨rfl, hv⟩, q'⟩)) fun H1 e1 => ?_
    refine q_take (et_is (et_lt (ev_var rfl) ev_c) rfl) fun H2 e2 => ?_
    have hbl := blk_len2 hA hv (by omega)
    refine s_ret (ev_eqLL (d := dA ("told" : Str) (.str (SX.S (blk al (cutW v))))) (dA_str (by decide +kernel) fun c hc => by rcases blk_low hA hv c hc with rfl | rfl <;> decide) (el_call (ea_cons (ev_var rfl) (ea_cons (ev_var rfl) ea_nil)) (sl_ans (by omega) hz (.inl ⟨hA, hv, rfl, rfl⟩))) (el_lst (ea_cons ev_c (ea_cons ev_c (ea_cons (ev_is (ev_joinLB (ev_is ev_c (by rw [nil_is])) (el_call (ea_cons (ev_var rfl) (ea_cons (ev_var rfl) ea_nil)) (sl_ns hA hv hz)) (by rw [bnums_flat]; omega)) (by rw [bnums_flat])) ea_nil))) (by show 3 ≤ 100000; decide)) fun p H1 g => .lst (sq_of g) (.cons (.str _) (.cons (.bl _) (.cons (.str _) .nil)))) fun H3 e3 => q H3 ((e1.trans e2).trans e3)
  · obtain ⟨k, hk⟩ := bad1_ex hv
    refine q_asg (v := .int (k : Int)) (ev_call (z := .int (k : Int)) (ea_cons (ev_var rfl) (ea_cons (ev_var rfl) ea_nil)) (fun H3 e3 Q' q' E' => ⟨al, v, (k : Int), rfl, by omega, .inr ⟨k, rfl, hk⟩, q'⟩)) fun H1 e1 => ?_
    refine q_skip (et_is (et_lt (ev_var rfl) ev_c) (decide_eq_false (by omega))) fun H2 e2 => ?_
    refine s_ret (ev_eqLL (d := dA ("BadLetter" : Str) (.int (k : Int))) (dA_int (by decide +kernel)) (el_call (ea_cons (ev_var rfl) (ea_cons (ev_var rfl) ea_nil)) (sl_ans (by omega) hz (.inr (.inr ⟨hA, k, hk, rfl, rfl⟩)))) (el_lst (ea_cons ev_c (ea_cons ev_c (ea_cons (ev_var rfl) ea_nil))) (by show 3 ≤ 100000; decide)) fun p H1 g => .lst (sq_of g) (.cons (.str _) (.cons (.bl _) (.cons (.int _) .nil)))) fun H3 e3 => q H3 ((e1.trans e2).trans e3)
theorem sv_jud {al v : List Nat} {H : Hp} (hA : Alf al) (hz : v.length ≤ 2000) : SpV spJud ([tx al, tx v] ++ []) H (.bl true) := fun _ _ _ q _ => ⟨al, v, rfl, hA, hz, q⟩
/-! ### _law_refused -/
def spRfd (K : PySem.W.Frag) : Sp := fun vs H Q _ => ∃ (u : List Nat) (a : Addr) (ws : List (List Nat)), vs = [tx u, .ref a] ∧ ¬ Alf u ∧ u.length ≤ 1000 ∧ (∀ c ∈ u, c < 1114112) ∧ H a = some (.lst (ws.map tx)) ∧ ws.length ≤ 100 ∧ (∀ v ∈ ws, v.length ≤ 2000) ∧ RetV (.bl true) H Q
theorem has_rfd (F : At K mg "_law_refused" s__law_refused) (T : Top K mg C_Cut C_Round) (h2 : Has P w K mg base "_law_answer" s__law_answer ["signs", "word"] 9 spAns) : Has P w K mg base "_law_refused" s__law_refused ["wrong", "words"] 10 (spRfd K) := by
  obtain ⟨f, fd, F, m⟩ := F.ex
  obtain ⟨f2, fd2, _, G__law_answer, b__law_answer, m__law_answer, k__law_answer⟩ := h2
  refine ⟨f, fd, F, F.ok S__law_refused (fun vs H Q E h => ?_) (fun cdv A outer s H vs Q E hr h => ?_), F.binds fun _ _ _ _ _ _ us hl => match us, hl with | [_, _], _ => rfl, m, F.kp⟩
  · obtain ⟨u, a, ws, rfl, _⟩ := h
    rfl
  obtain ⟨u, a, ws, rfl, hB, hu, hc, hR, hw, hv, q⟩ := h
  refine ⟨_, (pss_cons
    (ps_for PassesOwn.never rfl (pi_list (pv 1)) (pg_name (i := 2) S__law_refused.nd rfl (Or.inl rfl)) (pss_one
    (ps_if (pt_cmpR (op_neD hr.units) (pe_call G__law_answer (hr.mono (by decide)) rfl m__law_answer k__law_answer b__law_answer .nil pass0 (pa_cons (pv 0) (pa_cons (pv 2) pa_nil))) (pe_lst (pa_cons pe_str (pa_cons pe_bl (pa_cons (pv 0) pa_nil)))) (nomark _)) (pss_one
    (ps_ret pe_bl)) pss_nil)))
    (pss_one
    (ps_ret pe_bl))), ?_⟩
  refine q_forLn (xs := ws.map tx) (ev_var rfl) (sq_of hR) (fun i σ' H' => (∃ u2, σ' = [some (tx u), some (.ref a), u2]) ∧ Ex H H') ?_ ?_ ?_ ?_
  · intro H1 e1
    exact ⟨⟨none, rfl⟩, e1⟩
  · intro i σ' H' _ p
    exact sq_of (p.2 _ _ hR)
  · intro i x σ' H' hx p
    obtain ⟨⟨u2, rfl⟩, e1⟩ := p
    rw [List.getElem?_map] at hx
    obtain ⟨v, hv2, rfl⟩ := Option.map_eq_some_iff.mp hx
    have hvz := hv v (List.mem_of_getElem? hv2)
    refine s_skip (et_test (ev_neLL (d := dA ("BadAlphabet" : Str) (.str (SX.S u))) (dA_str (by decide +kernel) hc) (el_call (ea_cons (ev_var rfl) (ea_cons (ev_var rfl) ea_nil)) (sl_ans hu hvz (.inr (.inl ⟨hB, rfl, rfl⟩)))) (el_lst (ea_cons ev_c (ea_cons ev_c (ea_cons (ev_var rfl) ea_nil))) (by show 3 ≤ 100000; decide)) fun p H1 g => .lst (sq_of g) (.cons (.str _) (.cons (.bl _) (.cons (.str _) .nil))))) fun H2 e2 => ⟨⟨_, rfl⟩, e1.trans e2⟩
  · intro σ' H' p
    obtain ⟨⟨u2, rfl⟩, e1⟩ := p
    exact s_ret ev_c fun H2 e2 => q H2 (e1.trans e2)
end
end Ver
namespace Ver
open PySem PySem.Spec PyProof.Rows L2 Evl
theorem fs_text {al : List Nat} {ra pa sa : Addr} {t m : Int} {tt : List Nat} : (cutFs al ra t pa m tt sa).lookup ("text" : Str) = some (tx tt) := by
  unfold cutFs
  rw [lookup_putF, if_neg (by decide +kernel), lookup_putF, if_pos rfl]
section
variable {K : PySem.W.Frag} {σ : L2.St} {H : Hp} {tl : TE} {Q : VK}
theorem run_ev {te : TE} {v : V} (h : Ev te σ H v) (k : ∀ H1, Ex H H1 → Q v H1) : te σ H Q := h H (Ex.refl H) _ k
theorem run_evA {ta : TA} {vs : List V} {k' : List V → Hp → Prop} (h : EvA ta σ H vs) (k : ∀ H1, Ex H H1 → k' vs H1) : ta σ H k' := h H (Ex.refl H) _ k
theorem run_call2X {sp : Sp} {E : XK} {t1 t2 : TE} {x1 : V} (h1 : Ev t1 σ H x1) (h2 : ∀ H1, Ex H H1 → t2 σ H1 fun y H2 => sp [x1, y] H2 Q E) : tCall sp [] E (tCons t1 (tCons t2 tNil)) σ H Q := h1 H (Ex.refl H) _ fun H1 e1 => h2 H1 e1
theorem run_fldMk {C : Addr} {sp : Sp} {E : XK} {f : Str} {t1 t2 t3 : TE} {x1 : V} (h1 : Ev t1 σ H x1)
    (h2 : ∀ H1, Ex H H1 → t2 σ H1 fun y H2 => t3 σ H2 fun z H3 => ∀ x dx, H3 x = none → H3 dx = none → dx ≠ x → sp [.ref x, x1, y, z] (L2.upd (L2.upd H3 dx (.own x)) x (.ins C dx [])) (fun v H4 => v = .non ∧ ∃ a C dx fs v, V.ref x = .ref a ∧ H4 a = some (.ins C dx fs) ∧ Cls K C ∧ NoAttr K C f ∧ fs.lookup f = some v ∧ Q v H4) E) :
    tFld K (tMake C sp [] E (tCons t1 (tCons t2 (tCons t3 tNil)))) f σ H Q := h1 H (Ex.refl H) _ fun H1 e1 => h2 H1 e1
theorem run_methMk {C : Addr} {m : Str} {sp sp2 : Sp} {E E2 : XK} {t t2 : TA} {vs : List V} (h : EvA t σ H vs)
    (k : ∀ H1, Ex H H1 → ∀ x dx, H1 x = none → H1 dx = none → dx ≠ x → sp (.ref x :: (vs ++ [])) (L2.upd (L2.upd H1 dx (.own x)) x (.ins C dx [])) (fun v H2 => v = .non ∧ ∃ a dx fs, V.ref x = .ref a ∧ H2 a = some (.ins C dx fs) ∧ fs.lookup m = none ∧ t2 σ H2 fun ws H3 => sp2 (.ref x :: (ws ++ [])) H3 Q E2) E) :
    tMeth C m sp2 [] E2 (tMake C sp [] E t) t2 σ H Q := h H (Ex.refl H) _ fun H1 e1 => k H1 e1
/-- [list(row) for row in rows] -/
theorem run_lcListRows {a : Addr} {xs : List V} {rs : Rw} {j : Nat} {vs : List Nat} (h : Ev tl σ H (.ref a)) (hT : H a = some (.tup xs)) (hR : RowsAt H xs rs) (hz : xs.length ≤ 40000) (hw : ∀ v, wipe ((wipe σ vs).set j (some v)) vs = wipe σ vs) (hj : ∀ v : V, ((wipe σ vs).set j (some v))[j]? = some (some v))
    (q : ∀ l ys H2, H l = none → Ex H H2 → H2 l = some (.lst ys) → RowsS H2 ys rs → Q (.ref l) H2) :
    tLc (iTup K tl) (gName j) tYes (tCB (fun xs H Q => ∃ p ys, xs = [.ref p] ∧ (SqL K H p ys ∨ SqT K H p ys) ∧ ∀ l, H l = none → Q (.ref l) (L2.upd H l (.lst ys))) (tCons (tVar j) tNil)) vs σ H Q := h H (Ex.refl H) _ fun H1 e1 => ⟨a, rfl, ⟨xs, st_of (e1 _ _ hT)⟩, fun Dl hD => by
  refine lc_tup (xs := xs) (fun i H' => H1 Dl = none ∧ Ex H1 H' ∧ ∃ ys, H' Dl = some (.lst ys) ∧ ys.length = i ∧ ∀ k, k < i → ∃ r, ys[k]? = some (.ref r) ∧ H' r = some (.lst [.int ((rowAt rs k).1 : Int), tx [(rowAt rs k).2]])) ⟨hD, Ex.new hD, [], upd_same, rfl, fun k hk => absurd hk (Nat.not_lt_zero _)⟩ (fun i H' _ p => st_of (p.2.1 _ _ (e1 _ _ hT))) (fun i x H' hi p => ?_) (fun H' p => ?_)
  · obtain ⟨p1, p2, ys, p3, p4, p5⟩ := p
    obtain ⟨hlt, r, rfl, hr⟩ := hR.get hi
    refine ⟨hw _, (show EvT tYes ((wipe σ vs).set j (some (.ref r))) H' true from et_yes) H' (Ex.refl H') _ fun H3 e3 => ?_⟩
    rw [if_pos rfl]
    refine (ea_cons (ev_var (hj _)) ea_nil) H3 (Ex.refl H3) _ fun H4 e4 => ⟨r, _, rfl, .inr (st_of (e4 _ _ (e3 _ _ (p2 _ _ (e1 _ _ hr))))), fun l hl => ?_⟩
    have e34 := e3.trans e4
    have hl3 : H' l = none := fresh_back e34 hl
    have ne : l ≠ Dl := fun z => by
      rw [z, p3] at hl3
      cases hl3
    refine ⟨ys, ?_, sz_lt (by have := hR.len; omega), p1, ((p2.trans e34).trans (Ex.new hl)).mut p1, ys ++ [.ref l], upd_same, by rw [List.length_append, p4]; rfl, fun k hk => ?_⟩
    · rw [upd_ne ne.symm]
      exact e34 _ _ p3
    · by_cases c : k < i
      · obtain ⟨r2, y1, y2⟩ := p5 k c
        have y3 := e34 _ _ y2
        have n2 : r2 ≠ l := fun z => by
          rw [z, hl] at y3
          cases y3
        have n3 : r2 ≠ Dl ∨ True := .inr trivial
        by_cases n4 : r2 = Dl
        · rw [n4, p3] at y2
          have y2 := HO.lst.inj (Option.some.inj y2)
          rw [y2] at y1
          have hk2 := (List.getElem?_eq_some_iff.mp y1).1
          match k, hk2, y1 with
          | 0, _, y1 => cases y1
          | 1, _, y1 => cases y1
        · exact ⟨r2, by rw [List.getElem?_append_left (by omega)]; exact y1, by rw [upd_ne n4, upd_ne n2]; exact y3⟩
      · have ek : k = i := by omega
        subst ek
        exact ⟨l, by rw [List.getElem?_append_right (by omega), p4, Nat.sub_self]; rfl, by rw [upd_ne ne]; exact upd_same⟩
  · obtain ⟨p1, p2, ys, p3, p4, p5⟩ := p
    refine q Dl ys H' (fresh_back e1 p1) (e1.trans p2) p3 ⟨by rw [p4, hR.len], fun i x hx => ?_⟩
    have hi := (List.getElem?_eq_some_iff.mp hx).1
    obtain ⟨r, y1, y2⟩ := p5 i (by omega)
    rw [y1] at hx
    exact ⟨by have := hR.len; omega, r, (Option.some.inj hx).symm, .inl y2⟩⟩
end
section
variable {P : Program} {w : World} {K : PySem.W.Frag} {mg : Str → Option Value} {base : Heap} {C_Cut : Addr} {C_Round : Addr} {C_PressError : Addr} {C_BadAlphabet : Addr} {C_BadLetter : Addr} {C_BadRow : Addr} {C_BadTail : Addr} {C_BadRank : Addr} {C_NotBits : Addr} {C_BadIndex : Addr} {C_BadStanding : Addr} {C_BadRule : Addr} {C_AlphabetsDiffer : Addr} {C_DoesNotComeBack : Addr} {C_TooLarge : Addr} {C_NotWritten : Addr} {C_NoSuchText : Addr} {C_BadName : Addr} {C_NameTaken : Addr} {C_NoName : Addr} {C_EmptyRing : Addr} {C_NotInLot : Addr} {C_BadBuild : Addr} {C_BadGrowth : Addr} {C_EmptyText : Addr} {C_NothingToUndo : Addr} {C_NothingToRedo : Addr}
/-! ### _law_cut_pressed -/
def spCp : Sp := fun vs H Q _ => ∃ al v : List Nat, vs = [tx al, tx v, tx (blk al (cutW v))] ∧ Alf al ∧ (∀ c ∈ v, c ∈ al) ∧ v.length ≤ 2000 ∧ RetV (.bl true) H Q
theorem has_cp (F : At K mg "_law_cut_pressed" s__law_cut_pressed) (T : Top K mg C_Cut C_Round) (h1 : Has P w K mg base "_law_cut" s__law_cut ["word"] 1 spLc) (h2 : HasI P w K mg base C_Cut ["self", "alphabet", "rows", "tail"] 5 (spInit C_Cut)) (h3 : Has P w K mg base "press" s_press ["alphabet", "text"] 8 spPress) : Has P w K mg base "_law_cut_pressed" s__law_cut_pressed ["signs", "word", "due"] 9 spCp := by
  obtain ⟨f, fd, F, m⟩ := F.ex
  obtain ⟨f1, fd1, _, G__law_cut, b__law_cut, m__law_cut, k__law_cut⟩ := h1
  obtain ⟨f2, fd2, G_Cut___init__, b_Cut___init__, mk_Cut⟩ := h2
  obtain ⟨f3, fd3, _, G_press, b_press, m_press, k_press⟩ := h3
  refine ⟨f, fd, F, F.ok S__law_cut_pressed (fun vs H Q E h => ?_) (fun cdv A outer s H vs Q E hr h => ?_), F.binds fun _ _ _ _ _ _ us hl => match us, hl with | [_, _, _], _ => rfl, m, F.kp⟩
  · obtain ⟨al, v, rfl, _⟩ := h
    rfl
  obtain ⟨al, v, rfl, hA, hv, hz, q⟩ := h
  refine ⟨_, (pss_cons
    (ps_set (i := 3) S__law_cut_pressed.nd rfl (Or.inl rfl) (pe_call G__law_cut (hr.mono (by decide)) rfl m__law_cut k__law_cut b__law_cut .nil pass0 (pa_cons (pv 1) pa_nil)))
    (pss_cons
    (ps_set (i := 4) S__law_cut_pressed.nd rfl (Or.inl rfl) (pe_call G_press (hr.mono (by decide)) rfl m_press k_press b_press .nil pass0 (pa_cons (pv 0) (pa_cons (pe_fld (pe_make mk_Cut G_Cut___init__ (hr.mono (by decide)) rfl T.c_Cut b_Cut___init__ .nil pass0 (pa_cons (pv 0) (pa_cons (pe_lc (own := [("row", 5)]) (g := gName 5) (tt := tYes) rfl S__law_cut_pressed.nd (pi_tup (pe_ix (r := rIxL K) ix_list (pv 3) pe_int (fun _ _ => rfl))) (blkOk_by (N := N__law_cut_pressed) (sc := defScope s__law_cut_pressed) (by decide +kernel)) (fun _ _ _ _ _ => pg_name (i := 5) S__law_cut_pressed.nd rfl (Or.inl rfl)) (fun _ _ _ _ _ => pts_nil) (fun _ _ _ _ _ => (by exact (pe_callTy (x := "list") (call_listK (K := K) rfl) rfl T.z_list (by decide +kernel) (pa_cons (pv 5) pa_nil))))) (pa_cons (pe_ix (r := rIxL K) ix_list (pv 3) pe_int (fun _ _ => rfl)) pa_nil)))) rfl) pa_nil))))
    (pss_one
    (ps_ret (pe_and (pe_callB call_isi rfl T.z_isinstance (by decide +kernel) (pa_cons (pv 4) (pa_cons (pe_bltn (v := .ty "str") rfl T.z_str (by decide +kernel) rfl) pa_nil))) (pe_one (pe_cmpR op_eq (pv 4) (pv 2) (nomark _)))))))), ?_⟩
  refine q_callD (vs := [tx v]) (dvs := []) (ea_cons (ev_var rfl) ea_nil) fun H1 e1 => ⟨al, v, rfl, hv, by omega, fun p H2 hp e2 hc => ?_⟩
  obtain ⟨ra, pa, xs, c1, c2, c3, c4⟩ := hc.ex
  have ko := cut_ok (al := al) v hv
  have few : (cutW v).1.length ≤ v.length := ko.few
  have low : (cutW v).2 ≤ (cutW v).1.length := ko.low
  have ok : RowsOk al (cutW v).1 := ko.ok
  have wrd : v = (pcs (cutW v).1).flatten ++ (pcs (cutW v).1).getD (cutW v).2 [] := ko.word
  have wl := congrArg List.length wrd
  rw [List.length_append] at wl
  have e12 := e1.trans e2
  have hxl := c3.len
  -- press(signs, Cut(..).text)
  refine q_asgX ?_
  refine run_call2X (x1 := tx al) (ev_var rfl) fun H3 e3 => ?_
  refine run_fldMk (x1 := tx al) (ev_var rfl) fun H4 e4 => ?_
  have e24 := e3.trans e4
  refine run_lcListRows (a := ra) (xs := xs) (rs := (cutW v).1) (ev_op (ev_var rfl) ev_c (rv_ixL (sq_of (e24 _ _ c1)) (atI_nat (j := 0) rfl))) (e24 _ _ c2) (c3.mono e24) (by omega) (fun a => rfl) (fun a => rfl) fun l ys H5 hl e5 g5 r5 => ?_
  have e25 := e24.trans e5
  refine run_ev (v := .int ((cutW v).2 : Int)) (ev_op (ev_var rfl) ev_c (rv_ixL (sq_of (e25 _ _ c1)) (atI_nat (j := 1) rfl))) fun H6 e6 => ?_
  have e26 := e25.trans e6
  refine fun x dx hx hdx ne => ⟨al, x, l, dx, (cutW v).2, ys, (cutW v).1, H6, rfl, (Ex.new hdx).trans (Ex.new (by rw [upd_ne ne.symm]; exact hx)), hx, upd_same, .inl (e6 _ _ g5), r5.mono e6, hA, ok, low, by omega, by omega, fun H7 e7 hcu => ⟨rfl, ?_⟩⟩
  obtain ⟨dx2, ra2, pa2, sa2, xs2, i1, _⟩ := hcu.ex
  rw [← wrd] at i1
  refine ⟨x, C_Cut, dx2, _, tx v, rfl, i1, T.cl_Cut, T.n_Cut_text, fs_text, ?_⟩
  have e27 := (e12.trans e26).trans e7
  refine ⟨al, v, rfl, hA, hv, by omega, fun H8 e8 => ?_⟩
  exact s_ret (ev_andV (ev_cb (ea_cons (ev_var rfl) (ea_cons ev_c ea_nil)) (rc_isiS (b := true) (by decide +kernel))) (fun _ => ev_is (ev_op (ev_var rfl) (ev_var rfl) (rv_eq rfl)) (by rw [tx_dec, decide_eq_true rfl]))) fun H9 e9 => q H9 ((e27.trans e8).trans e9)
theorem sv_cp {al v : List Nat} {H : Hp} (hA : Alf al) (hv : ∀ c ∈ v, c ∈ al) (hz : v.length ≤ 2000) : SpV spCp ([tx al, tx v, tx (blk al (cutW v))] ++ []) H (.bl true) := fun _ _ _ q _ => ⟨al, v, rfl, hA, hv, hz, q⟩
/-! ### _law_beginning_pressed -/
def spBp (K : PySem.W.Frag) : Sp := fun vs H Q _ => ∃ (a : Addr) (ns : List Int) (al : List Nat), vs = [.ref a, tx al] ∧ SqL K H a (ns.map V.int) ∧ ns.length ≤ 63 ∧ Alf al ∧ RetV (.bl true) H Q
theorem has_bp (F : At K mg "_law_beginning_pressed" s__law_beginning_pressed) (T : Top K mg C_Cut C_Round) (h1 : Has P w K mg base "_law_digits" s__law_digits ["cell", "sizes"] 1 (spDigits K)) (h2 : Has P w K mg base "_law_cell" s__law_cell ["script", "k"] 1 (spCell K)) (h3 : Has P w K mg base "_law_free_word" s__law_free_word ["signs", "row", "many"] 1 (spFw K))
    (h4 : HasI P w K mg base C_Round ["self", "alphabet", "head", "ring"] 3 (spRnd C_Round)) (h5 : HasM P w K mg base C_Round "beginning" ["self", "length"] 1 (spBeg C_Round)) (h6 : Has P w K mg base "press" s_press ["alphabet", "text"] 8 spPress) (h7 : Has P w K mg base "_law_many_numbers" s__law_many_numbers ["signs", "word"] 3 spMn) : Has P w K mg base "_law_beginning_pressed" s__law_beginning_pressed ["script", "signs"] 9 (spBp K) := by
  obtain ⟨f, fd, F, m⟩ := F.ex
  obtain ⟨f1, fd1, _, G__law_digits, b__law_digits, m__law_digits, k__law_digits⟩ := h1
  obtain ⟨f2, fd2, _, G__law_cell, b__law_cell, m__law_cell, k__law_cell⟩ := h2
  obtain ⟨f3, fd3, _, G__law_free_word, b__law_free_word, m__law_free_word, k__law_free_word⟩ := h3
  obtain ⟨f4, fd4, G_Round___init__, b_Round___init__, mk_Round⟩ := h4
  obtain ⟨f5, fd5, G_Round_beginning, b_Round_beginning, M_Round_beginning⟩ := h5
  obtain ⟨f6, fd6, _, G_press, b_press, m_press, k_press⟩ := h6
  obtain ⟨f7, fd7, _, G__law_many_numbers, b__law_many_numbers, m__law_many_numbers, k__law_many_numbers⟩ := h7
  refine ⟨f, fd, F, F.ok S__law_beginning_pressed (fun vs H Q E h => ?_) (fun cdv A outer s H vs Q E hr h => ?_), F.binds fun _ _ _ _ _ _ us hl => match us, hl with | [_, _], _ => rfl, m, F.kp⟩
  · obtain ⟨a, ns, al, rfl, _⟩ := h
    rfl
  obtain ⟨a, ns, al, rfl, hS, h63, hA, q⟩ := h
  refine ⟨_, (pss_cons
    (ps_set (i := 2) S__law_beginning_pressed.nd rfl (Or.inl rfl) (pe_call G__law_digits (hr.mono (by decide)) rfl m__law_digits k__law_digits b__law_digits .nil pass0 (pa_cons (pe_call G__law_cell (hr.mono (by decide)) rfl m__law_cell k__law_cell b__law_cell .nil pass0 (pa_cons (pv 0) (pa_cons pe_int pa_nil))) (pa_cons (pe_lst (pa_cons pe_int (pa_cons pe_int (pa_cons pe_int (pa_cons pe_int (pa_cons pe_int pa_nil)))))) pa_nil))))
    (pss_cons
    (ps_if (pt_cmpR op_gt (pe_ix (r := rIxL K) ix_list (pv 2) pe_int (fun _ _ => rfl)) pe_int (nomark _)) (pss_one
    (ps_ret pe_bl)) pss_nil)
    (pss_cons
    (ps_set (i := 3) S__law_beginning_pressed.nd rfl (Or.inl rfl) (pe_ifExp (pt_cmpR op_eq (pe_ix (r := rIxL K) ix_list (pv 2) pe_int (fun _ _ => rfl)) pe_int (nomark _)) (pe_ix (r := rIxL K) ix_list (pv 2) pe_int (fun _ _ => rfl)) (pe_op op_mod (pe_callTy call_int1 rfl T.z_int (by decide +kernel) (pa_cons (pe_ix (r := rIxL K) ix_list (pv 2) pe_int (fun _ _ => rfl)) pa_nil)) pe_int)))
    (pss_cons
    (ps_set (i := 4) S__law_beginning_pressed.nd rfl (Or.inl rfl) (pe_call G__law_free_word (hr.mono (by decide)) rfl m__law_free_word k__law_free_word b__law_free_word .nil pass0 (pa_cons (pv 1) (pa_cons (pe_call G__law_digits (hr.mono (by decide)) rfl m__law_digits k__law_digits b__law_digits .nil pass0 (pa_cons (pe_call G__law_cell (hr.mono (by decide)) rfl m__law_cell k__law_cell b__law_cell .nil pass0 (pa_cons (pv 0) (pa_cons pe_int pa_nil))) (pa_cons (pe_op op_rep (pe_lst (pa_cons pe_int pa_nil)) pe_int) pa_nil))) (pa_cons (pe_ix (r := rIxL K) ix_list (pv 2) pe_int (fun _ _ => rfl)) pa_nil)))))
    (pss_cons
    (ps_set (i := 5) S__law_beginning_pressed.nd rfl (Or.inl rfl) (pe_call G__law_free_word (hr.mono (by decide)) rfl m__law_free_word k__law_free_word b__law_free_word .nil pass0 (pa_cons (pv 1) (pa_cons (pe_call G__law_digits (hr.mono (by decide)) rfl m__law_digits k__law_digits b__law_digits .nil pass0 (pa_cons (pe_call G__law_cell (hr.mono (by decide)) rfl m__law_cell k__law_cell b__law_cell .nil pass0 (pa_cons (pv 0) (pa_cons pe_int pa_nil))) (pa_cons (pe_op op_rep (pe_lst (pa_cons pe_int pa_nil)) pe_int) pa_nil))) (pa_cons (pe_op op_add pe_int (pe_ix (r := rIxL K) ix_list (pv 2) pe_int (fun _ _ => rfl))) pa_nil)))))
    (pss_cons
    (ps_set (i := 6) S__law_beginning_pressed.nd rfl (Or.inl rfl) (pe_slice sl_str (pe_op op_add_str (pv 4) (pe_op op_mulS (pv 5) (pe_op op_add (pe_op op_fdivW (pv 3) (pe_callB call_len_str rfl T.z_len PySem.boot_len (pa_cons (pv 5) pa_nil))) pe_int))) po_none (po_some (pv 3))))
    (pss_cons
    (ps_set (i := 7) S__law_beginning_pressed.nd rfl (Or.inl rfl) (pe_meth (pe_make mk_Round G_Round___init__ (hr.mono (by decide)) rfl T.c_Round b_Round___init__ .nil pass0 (pa_cons (pv 1) (pa_cons (pv 4) (pa_cons (pv 5) pa_nil)))) T.cl_Round M_Round_beginning G_Round_beginning (hr.mono (by decide)) b_Round_beginning .nil pass0 (pa_cons (pv 3) pa_nil)))
    (pss_cons
    (ps_if (PW.pt (pw_or (pt_not (pt_val (pe_callB call_isi rfl T.z_isinstance (by decide +kernel) (pa_cons (pv 7) (pa_cons (pe_bltn (v := .ty "str") rfl T.z_str (by decide +kernel) rfl) pa_nil))))) (pw_or1 (pt_cmpR op_ne (pv 7) (pv 6) (nomark _))))) (pss_one
    (ps_ret pe_bl)) pss_nil)
    (pss_cons
    (ps_set (i := 8) S__law_beginning_pressed.nd rfl (Or.inl rfl) (pe_call G_press (hr.mono (by decide)) rfl m_press k_press b_press .nil pass0 (pa_cons (pv 1) (pa_cons (pv 7) pa_nil))))
    (pss_one
    (ps_ret (pe_and (pe_callB call_isi rfl T.z_isinstance (by decide +kernel) (pa_cons (pv 8) (pa_cons (pe_bltn (v := .ty "str") rfl T.z_str (by decide +kernel) rfl) pa_nil))) (pe_one (pe_cmpR op_eq (pv 8) (pe_join pe_str (pe_call G__law_many_numbers (hr.mono (by decide)) rfl m__law_many_numbers k__law_many_numbers b__law_many_numbers .nil pass0 (pa_cons (pv 1) (pa_cons (pv 6) pa_nil)))) (nomark _))))))))))))))), ?_⟩
  refine q_asgL (el_digs (ss := [16, 4, 61, 60, 20001]) (ev_call (ea_cons (ev_var rfl) (ea_cons ev_c ea_nil)) (sv_cell hS h63 (by decide))) (el_lst (ea_cons ev_c (ea_cons ev_c (ea_cons ev_c (ea_cons ev_c (ea_cons ev_c ea_nil))))) (by show 5 ≤ 100000; decide)) (by decide) (fun i hi => ?_)) fun rp H1 hrp e1 g1 => ?_
  · have k : ∀ i, i < 5 → 0 < at0 [16, 4, 61, 60, 20001] i ∧ at0 [16, 4, 61, 60, 20001] i < 18446744073709551616 := by decide +kernel
    exact k i hi
  have dlen : (digits (cell ns 12) [16, 4, 61, 60, 20001]).length = 5 := digits_len _ _
  have d2 := digits_at (c := cell ns 12) (ss := [16, 4, 61, 60, 20001]) (i := 2) (by decide) (by decide)
  have d3 := digits_at (c := cell ns 12) (ss := [16, 4, 61, 60, 20001]) (i := 3) (by decide) (by decide)
  have d4 := digits_at (c := cell ns 12) (ss := [16, 4, 61, 60, 20001]) (i := 4) (by decide) (by decide)
  generalize digits (cell ns 12) [16, 4, 61, 60, 20001] = r at *
  have d2 : 0 ≤ at0 r 2 ∧ at0 r 2 < 61 := d2
  have d3 : 0 ≤ at0 r 3 ∧ at0 r 3 < 60 := d3
  have d4 : 0 ≤ at0 r 4 ∧ at0 r 4 < 20001 := d4
  refine q_when (et_gt (ev_atI (sq_of g1) (i := 0) (by omega) rfl (ev_var rfl) ev_c) ev_c) (fun hb H2 e2 => ?_) (fun hb H2 e2 => ?_)
  · exact s_ret ev_c fun H3 e3 => q H3 ((e1.trans e2).trans e3)
  have e12 := e1.trans e2
  obtain ⟨n2, en2⟩ : ∃ n : Nat, at0 r 2 = (n : Int) := ⟨(at0 r 2).toNat, by omega⟩
  obtain ⟨n3, en3⟩ : ∃ n : Nat, at0 r 3 = (n : Int) := ⟨(at0 r 3).toNat, by omega⟩
  -- many
  have many : ∃ n : Nat, n ≤ 20000 ∧ Ev (tIf (tTest (tOp rEq (tOp (rIxL K) (tVar 2) (tC (.int 1))) (tC (.int 0)))) (tOp (rIxL K) (tVar 2) (tC (.int 4))) (tOp (rI (fun _ j => 0 < j) fun i j => .int (i % j)) (tCB (fun xs H Q => (∃ i, xs = [V.int i] ∧ Q (V.int i) H) ∨ ∃ k, xs = [V.bl k] ∧ Q (V.int (if k = true then 1 else 0)) H) (tCons (tOp (rIxL K) (tVar 2) (tC (.int 4))) tNil)) (tC (.int 4001)))) [some (.ref a), some (tx al), some (.ref rp), none, none, none, none, none, none] H2 (.int (n : Int)) := by
    have g2 := sq_of (K := K) (e2 _ _ g1)
    by_cases c : at0 r 1 = 0
    · refine ⟨(at0 r 4).toNat, by omega, ev_if (b := true) (et_is (et_eqI (ev_atI g2 (i := 1) (by omega) rfl (ev_var rfl) ev_c) ev_c) (decide_eq_true c)) (fun _ => ev_is (ev_atI g2 (i := 4) (by omega) rfl (ev_var rfl) ev_c) (by congr 1; omega)) (fun z => nomatch z)⟩
    · refine ⟨(at0 r 4 % 4001).toNat, by omega, ev_if (b := false) (et_is (et_eqI (ev_atI g2 (i := 1) (by omega) rfl (ev_var rfl) ev_c) ev_c) (decide_eq_false c)) (fun z => nomatch z) (fun _ => ev_is (ev_mod (by decide) (ev_int (ev_atI g2 (i := 4) (by omega) rfl (ev_var rfl) ev_c)) ev_c) (by congr 1; omega))⟩
  obtain ⟨n, hn, hev⟩ := many
  refine q_asg hev fun H3 e3 => ?_
  have e13 := e12.trans e3
  have g3 := e3 _ _ (e2 _ _ g1)
  have d60 : ∀ i, i < (List.replicate 60 (6 : Int)).length → 0 < at0 (List.replicate 60 (6 : Int)) i ∧ at0 (List.replicate 60 (6 : Int)) i < 18446744073709551616 := fun i hi => by
    rw [List.length_replicate] at hi
    rw [at0_rep6 hi]
    decide
  have dl60 : ∀ c, (digits c (List.replicate 60 6)).length = 60 := fun c => by rw [digits_len, List.length_replicate]
  have fw : ∀ {σ : L2.St} {H' : Hp} {k : Int} {te : TE} {nn : Nat}, Ex H3 H' → σ[0]? = some (some (.ref a)) → σ[1]? = some (some (tx al)) → (0 ≤ k ∧ k ≤ 1000) → (∀ H1, Ex H' H1 → Ev te σ H1 (.int (nn : Int))) → nn ≤ 60 →
      Ev (tCall (spFw K) [] E0 (tCons (tVar 1) (tCons (tCall (spDigits K) [] E0 (tCons (tCall (spCell K) [] E0 (tCons (tVar 0) (tCons (tC (.int k)) tNil))) (tCons (tOp rRep (tLst (tCons (tC (.int 6)) tNil)) (tC (.int 60))) tNil))) (tCons te tNil)))) σ H' (tx (fwL al (digits (cell ns k) (List.replicate 60 6)) nn)) :=
    fun e h0 h1 hk ht hnn => ev_fw hA (ev_var h1) (el_digs (ss := List.replicate 60 6) (ev_call (ea_cons (ev_var h0) (ea_cons ev_c ea_nil)) (sv_cell (ex_l (e13.trans e) hS) h63 hk)) (el_eq (el_rep (n := 60) (el_lst (ea_cons ev_c ea_nil) (by show 1 ≤ 100000; decide)) (fun _ _ => ev_c) (by show 1 * 60 ≤ 100000; decide) (by decide)) (by decide +kernel)) (by rw [List.length_replicate]; decide) d60) ht (by rw [dl60]; exact hnn) (by omega)
  refine q_asg (fw (Ex.refl H3) rfl rfl (by decide) (nn := n2) (fun H4 e4 => ev_is (ev_atI (ex_l e4 (sq_of g3)) (i := 2) (by omega) rfl (ev_var rfl) ev_c) (by rw [en2])) (by omega)) fun H4 e4 => ?_
  refine q_asg (fw e4 rfl rfl (by decide) (nn := 1 + n3) (fun H5 e5 => ev_is (ev_add ev_c (ev_atI (ex_l (e4.trans e5) (sq_of g3)) (i := 3) (by omega) rfl (ev_var rfl) ev_c)) (by rw [en3, Int.natCast_add]; rfl)) (by omega)) fun H5 e5 => ?_
  have oh := fwL_over hA (r := digits (cell ns 13) (List.replicate 60 6)) (n := n2)
  have og := fwL_over hA (r := digits (cell ns 14) (List.replicate 60 6)) (n := 1 + n3)
  have lh := fwL_len (al := al) (r := digits (cell ns 13) (List.replicate 60 6)) (n := n2)
  have lg := fwL_len (al := al) (r := digits (cell ns 14) (List.replicate 60 6)) (n := 1 + n3)
  generalize fwL al (digits (cell ns 13) (List.replicate 60 6)) n2 = hd at oh lh ⊢
  generalize fwL al (digits (cell ns 14) (List.replicate 60 6)) (1 + n3) = rg at og lg ⊢
  have e35 := e4.trans e5
  have rp1 : 0 < rg.length := by omega
  obtain ⟨s1, s2⟩ := beg_small (n := n) (l := rg.length) rp1 (by omega) (by omega)
  have hlen := rpl3_len (r := rg) (n / rg.length + 1)
  refine q_asg (v := tx (beg (ex hd rg) n)) (ev_is (ev_slS (by rw [List.length_append, hlen]; omega) (ev_catS (by rw [hlen]; omega) (ev_var rfl) (ev_mulS (n := n / rg.length + 1) s1 (by omega) (ev_var rfl)
    (ev_is (ev_add (ev_div (j := (rg.length : Int)) (by omega) (by omega) (ev_var rfl) (ev_lenS (l := rg) (by omega) (ev_var rfl))) ev_c) (by rw [Int.natCast_add, Int.natCast_ediv]; rfl)))) eo_none (eo_some (i := (n : Int)) (ev_var rfl))) (by rw [cutL_to, beg_is rp1 fun i => rfl])) fun H6 e6 => ?_
  have oex : ∀ i, ex hd rg i ∈ al := fun i => by
    by_cases c : i < hd.length
    · rw [ex_head c]
      exact oh _ (List.mem_of_getElem? (take_getD c))
    · rw [ex_ring (by omega)]
      exact og _ (List.mem_of_getElem? (take_getD (Nat.mod_lt _ rp1)))
  have obg : ∀ c ∈ beg (ex hd rg) n, c ∈ al := fun c hc => by
    unfold beg at hc
    obtain ⟨i, _, rfl⟩ := List.mem_map.mp hc
    exact oex i
  have lbg : (beg (ex hd rg) n).length = n := beg_len _ _
  have e36 := e35.trans e6
  -- text
  refine q_asgX ?_
  refine run_methMk (vs := [tx al, tx hd, tx rg]) (ea_cons (ev_var rfl) (ea_cons (ev_var rfl) (ea_cons (ev_var rfl) ea_nil))) fun H7 e7 x dx hx hdx ne => ⟨al, hd, rg, x, dx, H7, rfl, (Ex.new hdx).trans (Ex.new (by rw [upd_ne ne.symm]; exact hx)), hx, upd_same, hA, oh, og, rp1, by omega, by omega, fun H8 N e8 hN hR hL => ⟨rfl, ?_⟩⟩
  obtain ⟨dx2, al2, h2', r2', ip2, _⟩ := hR.ex
  have nol : ∀ {al h r : List Nat} {N : Nat}, (rndFs al h r N).lookup ("beginning" : Str) = none := fun {al h r N} => by
    unfold rndFs
    rw [lookup_putF, if_neg (by decide +kernel), lookup_putF, if_neg (by decide +kernel), lookup_putF, if_neg (by decide +kernel), lookup_putF, if_neg (by decide +kernel)]
    rfl
  have e38 := (e36.trans e7).trans e8
  refine ⟨x, dx2, _, rfl, ip2, nol, run_evA (vs := [.int (n : Int)]) (ea_cons (ev_var rfl) ea_nil) fun H9 e9 => ⟨x, _, N, n, rfl, hR.mono e9, by omega, by omega, fun H10 e10 => ?_⟩⟩
  have e310 := (e38.trans e9).trans e10
  generalize ex hd rg = ee at *
  generalize beg ee n = u at *
  refine q_skip (et_is (et_or (et_not (et_B (ev_cb (ea_cons (ev_var rfl) (ea_cons ev_c ea_nil)) (rc_isiS (b := true) (by decide +kernel))))) (fun _ => et_neS (ev_var rfl) (ev_var rfl))) (by rw [decide_eq_true rfl]; rfl)) fun H11 e11 => ?_
  have hbl := blk_len2 hA obg (by omega)
  refine q_asg (v := tx (blk al (cutW u))) (ev_call (ea_cons (ev_var rfl) (ea_cons (ev_var rfl) ea_nil)) (fun H12 e12 Q' q' E' => ⟨al, u, rfl, hA, obg, by omega, q'⟩)) fun H12 e12' => ?_
  refine s_ret (ev_andV (ev_cb (ea_cons (ev_var rfl) (ea_cons ev_c ea_nil)) (rc_isiS (b := true) (by decide +kernel))) (fun _ => ev_is (ev_op (ev_var rfl) (ev_joinLB (ev_is ev_c (by rw [nil_is])) (el_call (xs := (bnums al (cutW u)).map tx) (ea_cons (ev_var rfl) (ea_cons (ev_var rfl) ea_nil)) (fun H1 e Q q E => ⟨al, u, rfl, hA, obg, by omega, q⟩)) (by rw [bnums_flat]; omega)) (rv_eq rfl)) (by rw [bnums_flat, tx_dec, decide_eq_true rfl]))) fun H13 e13' => q H13 ((((e13.trans e310).trans e11).trans e12').trans e13')
theorem sv_bp {a : Addr} {ns : List Int} {al : List Nat} {H : Hp} (hS : SqL K H a (ns.map V.int)) (h63 : ns.length ≤ 63) (hA : Alf al) : SpV (spBp K) ([.ref a, tx al] ++ []) H (.bl true) := fun _ e _ q _ => ⟨a, ns, al, rfl, ex_l e hS, h63, hA, q⟩
end
end Ver
namespace Ver
open PySem PySem.Spec PyProof.Rows L2 Evl
def SZ : List Int := [12, 46, 46] ++ List.replicate 46 6
theorem sz_len : SZ.length = 49 := rfl
theorem sz_pos : ∀ i, i < 49 → 0 < at0 SZ i ∧ at0 SZ i < 18446744073709551616 := by decide +kernel
theorem sz_6 : ∀ i, i < 49 → 3 ≤ i → at0 SZ i = 6 := by decide +kernel
theorem w_row (c : Int) : WRow (digits c SZ) := by
  have h := fun i (hi : i < 49) => digits_at (c := c) (ss := SZ) (i := i) (by rw [sz_len]; exact hi) (sz_pos i hi).1
  refine ⟨by rw [digits_len, sz_len], ?_, ?_, fun i h3 h4 => ?_⟩
  · have := h 0 (by decide)
    have e : at0 SZ 0 = 12 := by decide +kernel
    omega
  · have := h 1 (by decide)
    have e : at0 SZ 1 = 46 := by decide +kernel
    omega
  · have := h i h4
    have e := sz_6 i h4 h3
    omega
theorem vals_rev2 : ∀ {zs : List V} {ws : List Value}, Vals zs ws → Vals zs.reverse ws.reverse
  | _, _, .nil => .nil
  | _, _, .cons h t => by
    rw [List.reverse_cons, List.reverse_cons]
    exact Vals.append (vals_rev2 t) (.cons h .nil)
section
variable {K : PySem.W.Frag} {σ : L2.St} {H : Hp} {tl t1 t2 t3 t4 te : TE} {sp : Sp} {E : XK} {x1 x2 x3 y : V} {xs dvs : List V} {Q : VK}
theorem run_c1Lx (hl : EvL tl σ H xs) (k : ∀ p H1, Ex H H1 → H1 p = some (.lst xs) → sp ([.ref p] ++ dvs) H1 Q E) : tCall sp dvs E (tCons tl tNil) σ H Q := hl H (Ex.refl H) _ fun p H1 _ e h1 => k p H1 e h1
theorem run_c2L (h1 : Ev t1 σ H x1) (hl : EvL tl σ H xs) (k : ∀ p H1, Ex H H1 → H1 p = some (.lst xs) → sp ([x1, .ref p] ++ dvs) H1 Q E) : tCall sp dvs E (tCons t1 (tCons tl tNil)) σ H Q :=
  h1 H (Ex.refl H) _ fun H1 e1 => hl H1 e1 _ fun p H2 _ e2 g2 => k p H2 (e1.trans e2) g2
theorem run_c3M (h1 : Ev t1 σ H x1) (hl : EvL tl σ H xs) (h3 : ∀ H1, Ex H H1 → Ev t3 σ H1 x3) (k : ∀ p H1, Ex H H1 → H1 p = some (.lst xs) → sp ([x1, .ref p, x3] ++ dvs) H1 Q E) : tCall sp dvs E (tCons t1 (tCons tl (tCons t3 tNil))) σ H Q :=
  h1 H (Ex.refl H) _ fun H1 e1 => hl H1 e1 _ fun p H2 _ e2 g2 => h3 H2 (e1.trans e2) H2 (Ex.refl H2) _ fun H3 e3 => k p H3 ((e1.trans e2).trans e3) (e3 _ _ g2)
theorem run_c4E (h1 : Ev t1 σ H x1) (h2 : Ev t2 σ H x2) (h3 : Ev t3 σ H x3) (hl : EvL tl σ H xs) (k : ∀ p H1, Ex H H1 → H1 p = some (.lst xs) → sp ([x1, x2, x3, .ref p] ++ dvs) H1 Q E) : tCall sp dvs E (tCons t1 (tCons t2 (tCons t3 (tCons tl tNil)))) σ H Q :=
  h1 H (Ex.refl H) _ fun H1 e1 => h2 H1 e1 _ fun H2 e2 => h3 H2 (e1.trans e2) _ fun H3 e3 => hl H3 ((e1.trans e2).trans e3) _ fun p H4 _ e4 g4 => k p H4 (((e1.trans e2).trans e3).trans e4) g4
theorem ev_c2L (h1 : Ev t1 σ H x1) (hl : EvL tl σ H xs) (k : ∀ p H1, Ex H H1 → H1 p = some (.lst xs) → SpV sp ([x1, .ref p] ++ dvs) H1 y) : Ev (tCall sp dvs E (tCons t1 (tCons tl tNil))) σ H y := fun H0 e Q q =>
  h1 H0 e _ fun H1 e1 => hl H1 (e.trans e1) _ fun p H2 _ e2 g2 => k p H2 ((e.trans e1).trans e2) g2 H2 (Ex.refl H2) Q (fun H3 e3 => q H3 ((e1.trans e2).trans e3)) E
end
section
variable {P : Program} {w : World} {K : PySem.W.Frag} {mg : Str → Option Value} {base : Heap} {C_Cut : Addr} {C_Round : Addr} {C_PressError : Addr} {C_BadAlphabet : Addr} {C_BadLetter : Addr} {C_BadRow : Addr} {C_BadTail : Addr} {C_BadRank : Addr} {C_NotBits : Addr} {C_BadIndex : Addr} {C_BadStanding : Addr} {C_BadRule : Addr} {C_AlphabetsDiffer : Addr} {C_DoesNotComeBack : Addr} {C_TooLarge : Addr} {C_NotWritten : Addr} {C_NoSuchText : Addr} {C_BadName : Addr} {C_NameTaken : Addr} {C_NoName : Addr} {C_EmptyRing : Addr} {C_NotInLot : Addr} {C_BadBuild : Addr} {C_BadGrowth : Addr} {C_EmptyText : Addr} {C_NothingToUndo : Addr} {C_NothingToRedo : Addr}
def spLaw (K : PySem.W.Frag) : Sp := fun vs H Q _ => ∃ (a : Addr) (ns : List Int), vs = [.ref a] ∧ SqL K H a (ns.map V.int) ∧ ns.length ≤ 63 ∧ ∀ H', Q (.bl true) H'
theorem kb_press2 {f : Addr} {fd : FuncData} (F : Fun K "press" "press" s_press f fd) : KBn K fd ["alphabet", "text"] 0 ["text", "alphabet"] (fun _ ws => ws.reverse) (fun _ ws => ws.reverse) := by
  obtain ⟨oc, od, kV, doc, pm, an, cdv, ct, osl, rfl, lk, hcd⟩ := F.ex
  refine ⟨fun s us ws X l1 l2 => ?_, fun r1 r2 => vals_rev2 r2⟩
  match us, ws, l1, l2 with
  | [], [v, u], _, _ => exact .of_eq rfl
theorem ok_law {f : Addr} {fd : FuncData} (F : Fun K "law" "law" s_law f fd) (T : Top K mg C_Cut C_Round) (h1 : Has P w K mg base "_law_signs" s__law_signs ["row"] 1 (spSigns K)) (h2 : Has P w K mg base "_law_digits" s__law_digits ["cell", "sizes"] 1 (spDigits K)) (h3 : Has P w K mg base "_law_cell" s__law_cell ["script", "k"] 1 (spCell K))
    (h4 : Has P w K mg base "_law_word" s__law_word ["signs", "row", "most"] 2 (spWd K)) (h5 : Has P w K mg base "_law_long_word" s__law_long_word ["script", "first", "signs", "row"] 2 (spLong K)) (h6 : Has P w K mg base "_law_wider" s__law_wider ["signs", "digit"] 1 spWi) (h7 : Has P w K mg base "_law_spoilt" s__law_spoilt ["signs", "wider", "word", "row"] 1 (spSpo K))
    (h8 : Has P w K mg base "_law_no_signs" s__law_no_signs ["signs", "row"] 1 (spNos K)) (h9 : Has P w K mg base "_law_numbers" s__law_numbers ["signs", "word"] 3 spNs) (h10 : Has P w K mg base "press" s_press ["alphabet", "text"] 8 spPress) (h11 : Has P w K mg base "_law_judged" s__law_judged ["signs", "word"] 10 spJud)
    (h12 : Has P w K mg base "_law_refused" s__law_refused ["wrong", "words"] 10 (spRfd K)) (h13 : Has P w K mg base "_law_cut_pressed" s__law_cut_pressed ["signs", "word", "due"] 9 spCp) (h14 : Has P w K mg base "_law_beginning_pressed" s__law_beginning_pressed ["script", "signs"] 9 (spBp K)) : FnG P w K mg base CX0 11 f fd ["script"] (spLaw K) := by
  obtain ⟨f1, fd1, _, G__law_signs, b__law_signs, m__law_signs, k__law_signs⟩ := h1
  obtain ⟨f2, fd2, _, G__law_digits, b__law_digits, m__law_digits, k__law_digits⟩ := h2
  obtain ⟨f3, fd3, _, G__law_cell, b__law_cell, m__law_cell, k__law_cell⟩ := h3
  obtain ⟨f4, fd4, _, G__law_word, b__law_word, m__law_word, k__law_word⟩ := h4
  obtain ⟨f5, fd5, _, G__law_long_word, b__law_long_word, m__law_long_word, k__law_long_word⟩ := h5
  obtain ⟨f6, fd6, _, G__law_wider, b__law_wider, m__law_wider, k__law_wider⟩ := h6
  obtain ⟨f7, fd7, _, G__law_spoilt, b__law_spoilt, m__law_spoilt, k__law_spoilt⟩ := h7
  obtain ⟨f8, fd8, _, G__law_no_signs, b__law_no_signs, m__law_no_signs, k__law_no_signs⟩ := h8
  obtain ⟨f9, fd9, _, G__law_numbers, b__law_numbers, m__law_numbers, k__law_numbers⟩ := h9
  obtain ⟨f10, fd10, F10, G_press, b_press, m_press, k_press⟩ := h10
  obtain ⟨f11, fd11, _, G__law_judged, b__law_judged, m__law_judged, k__law_judged⟩ := h11
  obtain ⟨f12, fd12, _, G__law_refused, b__law_refused, m__law_refused, k__law_refused⟩ := h12
  obtain ⟨f13, fd13, _, G__law_cut_pressed, b__law_cut_pressed, m__law_cut_pressed, k__law_cut_pressed⟩ := h13
  obtain ⟨f14, fd14, _, G__law_beginning_pressed, b__law_beginning_pressed, m__law_beginning_pressed, k__law_beginning_pressed⟩ := h14
  have kb_press := kb_press2 F10
  refine okG F S_law (fun vs H Q E h => ?_) (fun cdv A outer s H vs Q E g hr h => ?_)
  · obtain ⟨a, ns, rfl, _⟩ := h
    rfl
  obtain ⟨a, ns, rfl, hS, h63, q⟩ := h
  refine ⟨_, (pss_cons
    (ps_set (i := 1) S_law.nd rfl (Or.inl rfl) (pe_call G__law_signs (hr.mono (by decide)) rfl m__law_signs k__law_signs b__law_signs .nil pass0 (pa_cons (pe_call G__law_digits (hr.mono (by decide)) rfl m__law_digits k__law_digits b__law_digits .nil pass0 (pa_cons (pe_call G__law_cell (hr.mono (by decide)) rfl m__law_cell k__law_cell b__law_cell .nil pass0 (pa_cons (pv 0) (pa_cons pe_int pa_nil))) (pa_cons (pe_op op_cat (pe_lst (pa_cons pe_int pa_nil)) (pe_op op_rep (pe_lst (pa_cons pe_int pa_nil)) pe_int)) pa_nil))) pa_nil)))
    (pss_cons
    (ps_set (i := 2) S_law.nd rfl (Or.inl rfl) (pe_call G__law_digits (hr.mono (by decide)) rfl m__law_digits k__law_digits b__law_digits .nil pass0 (pa_cons (pe_call G__law_cell (hr.mono (by decide)) rfl m__law_cell k__law_cell b__law_cell .nil pass0 (pa_cons (pv 0) (pa_cons pe_int pa_nil))) (pa_cons (pe_lst (pa_cons pe_int (pa_cons pe_int (pa_cons pe_int (pa_cons pe_int (pa_cons pe_int (pa_cons pe_int (pa_cons pe_int (pa_cons pe_int (pa_cons pe_int pa_nil)))))))))) pa_nil))))
    (pss_cons
    (ps_set (i := 3) S_law.nd rfl (Or.inl rfl) (pe_call G__law_word (hr.mono (by decide)) rfl m__law_word k__law_word b__law_word .nil pass0 (pa_cons (pv 1) (pa_cons (pe_call G__law_digits (hr.mono (by decide)) rfl m__law_digits k__law_digits b__law_digits .nil pass0 (pa_cons (pe_call G__law_cell (hr.mono (by decide)) rfl m__law_cell k__law_cell b__law_cell .nil pass0 (pa_cons (pv 0) (pa_cons pe_int pa_nil))) (pa_cons (pe_op op_cat (pe_lst (pa_cons pe_int (pa_cons pe_int (pa_cons pe_int pa_nil)))) (pe_op op_rep (pe_lst (pa_cons pe_int pa_nil)) pe_int)) pa_nil))) (pa_cons pe_int pa_nil)))))
    (pss_cut
    (ps_if (pt_cmpR op_eq (pe_ix (r := rIxL K) ix_list (pv 2) pe_int (fun _ _ => rfl)) pe_int (nomark _)) (pss_one
    (ps_set (i := 3) S_law.nd rfl (Or.inl rfl) (pe_call G__law_long_word (hr.mono (by decide)) rfl m__law_long_word k__law_long_word b__law_long_word .nil pass0 (pa_cons (pv 0) (pa_cons pe_int (pa_cons (pv 1) (pa_cons (pe_slice sl_list (pv 2) (po_some pe_int) po_none) pa_nil))))))) pss_nil)
    (pss_cons
    (ps_set (i := 4) S_law.nd rfl (Or.inl rfl) (pe_op op_mod (pe_callTy call_int1 rfl T.z_int (by decide +kernel) (pa_cons (pe_ix (r := rIxL K) ix_list (pv 2) pe_int (fun _ _ => rfl)) pa_nil)) (pe_op op_add (pe_callB call_len_str rfl T.z_len PySem.boot_len (pa_cons (pv 3) pa_nil)) pe_int)))
    (pss_cons
    (ps_set (i := 2) S_law.nd rfl (Or.inl rfl) (pe_call G__law_digits (hr.mono (by decide)) rfl m__law_digits k__law_digits b__law_digits .nil pass0 (pa_cons (pe_call G__law_cell (hr.mono (by decide)) rfl m__law_cell k__law_cell b__law_cell .nil pass0 (pa_cons (pv 0) (pa_cons pe_int pa_nil))) (pa_cons (pe_lst (pa_cons pe_int (pa_cons pe_int (pa_cons pe_int (pa_cons pe_int (pa_cons pe_int (pa_cons pe_int (pa_cons pe_int pa_nil)))))))) pa_nil))))
    (pss_cons
    (ps_set (i := 5) S_law.nd rfl (Or.inl rfl) (pe_call G__law_wider (hr.mono (by decide)) rfl m__law_wider k__law_wider b__law_wider .nil pass0 (pa_cons (pv 1) (pa_cons (pe_ix (r := rIxL K) ix_list (pv 2) pe_int (fun _ _ => rfl)) pa_nil))))
    (pss_cons
    (ps_set (i := 6) S_law.nd rfl (Or.inl rfl) (pe_call G__law_spoilt (hr.mono (by decide)) rfl m__law_spoilt k__law_spoilt b__law_spoilt .nil pass0 (pa_cons (pv 1) (pa_cons (pv 5) (pa_cons (pe_slice sl_str (pv 3) po_none (po_some pe_int)) (pa_cons (pe_slice sl_list (pv 2) (po_some pe_int) po_none) pa_nil))))))
    (pss_cons
    (ps_set (i := 7) S_law.nd rfl (Or.inl rfl) (pe_call G__law_no_signs (hr.mono (by decide)) rfl m__law_no_signs k__law_no_signs b__law_no_signs .nil pass0 (pa_cons (pv 1) (pa_cons (pe_call G__law_digits (hr.mono (by decide)) rfl m__law_digits k__law_digits b__law_digits .nil pass0 (pa_cons (pe_call G__law_cell (hr.mono (by decide)) rfl m__law_cell k__law_cell b__law_cell .nil pass0 (pa_cons (pv 0) (pa_cons pe_int pa_nil))) (pa_cons (pe_lst (pa_cons pe_int (pa_cons pe_int (pa_cons pe_int (pa_cons pe_int pa_nil))))) pa_nil))) pa_nil))))
    (pss_cons
    (ps_set (i := 8) S_law.nd rfl (Or.inl rfl) (pe_join pe_str (pe_call G__law_numbers (hr.mono (by decide)) rfl m__law_numbers k__law_numbers b__law_numbers .nil pass0 (pa_cons (pv 1) (pa_cons (pv 3) pa_nil)))))
    (pss_cons
    (ps_set (i := 9) S_law.nd rfl (Or.inl rfl) (pe_call G_press (hr.mono (by decide)) rfl m_press k_press b_press .nil pass0 (pa_cons (pv 1) (pa_cons (pv 3) pa_nil))))
    (pss_cons
    (ps_set (i := 10) S_law.nd rfl (Or.inl rfl) (pe_callB (call_reprS g hr.units) rfl T.z_repr (by decide +kernel) (pa_cons (pv 9) pa_nil)))
    (pss_cons
    (ps_if (PW.pt (pw_or (pt_not (pt_val (pe_callB call_isi rfl T.z_isinstance (by decide +kernel) (pa_cons (pv 9) (pa_cons (pe_bltn (v := .ty "str") rfl T.z_str (by decide +kernel) rfl) pa_nil))))) (pw_or1 (pt_cmpR op_ne (pv 9) (pv 8) (nomark _))))) (pss_one
    (ps_ret pe_bl)) pss_nil)
    (pss_cons
    (ps_if (PW.pt (pw_or (pt_not (pt_val (pe_call G__law_judged (hr.mono (by decide)) rfl m__law_judged k__law_judged b__law_judged .nil pass0 (pa_cons (pv 1) (pa_cons (pv 6) pa_nil))))) (pw_or (pt_not (pt_val (pe_call G__law_judged (hr.mono (by decide)) rfl m__law_judged k__law_judged b__law_judged .nil pass0 (pa_cons (pv 5) (pa_cons (pv 6) pa_nil))))) (pw_or1 (pt_not (pt_val (pe_call G__law_judged (hr.mono (by decide)) rfl m__law_judged k__law_judged b__law_judged .nil pass0 (pa_cons (pv 5) (pa_cons (pv 3) pa_nil))))))))) (pss_one
    (ps_ret pe_bl)) pss_nil)
    (pss_cons
    (ps_if (pt_not (pt_val (pe_call G__law_refused (hr.mono (by decide)) rfl m__law_refused k__law_refused b__law_refused .nil pass0 (pa_cons (pv 7) (pa_cons (pe_lst (pa_cons (pv 3) (pa_cons (pv 6) (pa_cons pe_str pa_nil)))) pa_nil))))) (pss_one
    (ps_ret pe_bl)) pss_nil)
    (pss_cons
    (ps_if (PW.pt (pw_or (pt_not (pt_val (pe_call G__law_judged (hr.mono (by decide)) rfl m__law_judged k__law_judged b__law_judged .nil pass0 (pa_cons (pv 1) (pa_cons (pe_slice sl_str (pv 3) po_none (po_some (pv 4))) pa_nil))))) (pw_or (pt_not (pt_val (pe_call G__law_judged (hr.mono (by decide)) rfl m__law_judged k__law_judged b__law_judged .nil pass0 (pa_cons (pv 1) (pa_cons (pe_slice sl_str (pv 3) (po_some (pv 4)) po_none) pa_nil))))) (pw_or1 (pt_not (pt_val (pe_call G__law_cut_pressed (hr.mono (by decide)) rfl m__law_cut_pressed k__law_cut_pressed b__law_cut_pressed .nil pass0 (pa_cons (pv 1) (pa_cons (pv 3) (pa_cons (pv 8) pa_nil)))))))))) (pss_one
    (ps_ret pe_bl)) pss_nil)
    (pss_cons
    (ps_if (pt_not (pt_val (pe_call G__law_beginning_pressed (hr.mono (by decide)) rfl m__law_beginning_pressed k__law_beginning_pressed b__law_beginning_pressed .nil pass0 (pa_cons (pv 0) (pa_cons (pv 1) pa_nil))))) (pss_one
    (ps_ret pe_bl)) pss_nil)
    (pss_one
    (ps_ret (pe_and (pe_cmpR op_eq (pe_callB (call_reprS g hr.units) rfl T.z_repr (by decide +kernel) (pa_cons (pe_callN0 G_press (hr.mono (by decide)) rfl m_press k_press kb_press pass0 (pk_cons (pv 3) (pk_cons (pv 1) pk_nil))) pa_nil)) (pv 10) (nomark _)) (pe_one (pe_call G__law_judged (hr.mono (by decide)) rfl m__law_judged k__law_judged b__law_judged .nil pass0 (pa_cons (pv 1) (pa_cons (pv 3) pa_nil)))))))))))))))))))))))), ?_⟩
  -- signs
  refine q_asgX (run_c1Lx (el_digs (ss := [12] ++ List.replicate 6 36) (ev_call (ea_cons (ev_var rfl) (ea_cons ev_c ea_nil)) (sv_cell hS h63 (by decide))) (el_eq (el_catL (el_lst (ea_cons ev_c ea_nil) (by show 1 ≤ 100000; decide)) (el_rep (n := 6) (el_lst (ea_cons ev_c ea_nil) (by show 1 ≤ 100000; decide)) (fun _ _ => ev_c) (by show 1 * 6 ≤ 100000; decide) (by decide)) (by decide)) rfl) (by decide) (fun i hi => ?_)) fun p H1 e1 g1 => ⟨p, _, rfl, sq_of g1, by rw [digits_len]; rfl, digits_at (i := 0) (by decide) (by decide), fun al hA H2 e2 => ?_⟩)
  · have k : ∀ i, i < 7 → 0 < at0 ([12] ++ List.replicate 6 36) i ∧ at0 ([12] ++ List.replicate 6 36) i < 18446744073709551616 := by decide +kernel
    exact k i hi
  have e12 := e1.trans e2
  have cel : ∀ {σ : L2.St} {H1 : Hp} {k : Int}, Ex H H1 → σ[0]? = some (some (.ref a)) → (0 ≤ k ∧ k ≤ 1000) → Ev (tCall (spCell K) [] E0 (tCons (tVar 0) (tCons (tC (.int k)) tNil))) σ H1 (.int (cell ns k)) := fun e h0 hk => ev_call (ea_cons (ev_var h0) (ea_cons ev_c ea_nil)) (sv_cell (ex_l e hS) h63 hk)
  -- row
  refine q_asgL (el_digs (ss := [8, 8, 401, 6, 6, 6, 6, 6, 401]) (cel e12 rfl (by decide)) (el_lst (ea_cons ev_c (ea_cons ev_c (ea_cons ev_c (ea_cons ev_c (ea_cons ev_c (ea_cons ev_c (ea_cons ev_c (ea_cons ev_c (ea_cons ev_c ea_nil))))))))) (by show 9 ≤ 100000; decide)) (by decide) (fun i hi => ?_)) fun rp H3 hrp e3 g3 => ?_
  · have k : ∀ i, i < 9 → 0 < at0 [8, 8, 401, 6, 6, 6, 6, 6, 401] i ∧ at0 [8, 8, 401, 6, 6, 6, 6, 6, 401] i < 18446744073709551616 := by decide +kernel
    exact k i hi
  have e13 := e12.trans e3
  have dlen : (digits (cell ns 2) [8, 8, 401, 6, 6, 6, 6, 6, 401]).length = 9 := digits_len _ _
  have d2 := digits_at (c := cell ns 2) (ss := [8, 8, 401, 6, 6, 6, 6, 6, 401]) (i := 2) (by decide) (by decide)
  generalize digits (cell ns 2) [8, 8, 401, 6, 6, 6, 6, 6, 401] = rr at *
  -- word
  refine q_asgX (run_c3M (ev_var rfl) (el_digs (ss := SZ) (cel e13 rfl (by decide)) (el_eq (el_catL (el_lst (ea_cons ev_c (ea_cons ev_c (ea_cons ev_c ea_nil))) (by show 3 ≤ 100000; decide)) (el_rep (n := 46) (el_lst (ea_cons ev_c ea_nil) (by show 1 ≤ 100000; decide)) (fun _ _ => ev_c) (by show 1 * 46 ≤ 100000; decide) (by decide)) (by decide)) rfl) (by rw [sz_len]; decide) (fun i hi => sz_pos i (by rw [sz_len] at hi; exact hi))) (fun _ _ => ev_c) fun p H4 e4 g4 => ⟨al, p, _, rfl, hA, sq_of g4, w_row _, fun v0 hv0 H5 e5 => ?_⟩)
  have e35 := e4.trans e5
  have e15 := e13.trans e35
  have g5 := e35 _ _ g3
  refine q_cut (M := fun σ' H' => ∃ v, σ' = [some (.ref a), some (tx al), some (.ref rp), some (tx v), none, none, none, none, none, none, none] ∧ Ex H5 H' ∧ Word al 400 v) ?_ ?_
  · refine s_when (D := { nx := _, rt := _, bk := _, ct := _ }) (et_eqI (ev_atI (sq_of g5) (i := 0) (by omega) rfl (ev_var rfl) ev_c) ev_c) (fun hb H6 e6 => ?_) (fun hb H6 e6 => ?_)
    · refine s_asgY (run_c4E (ev_var rfl) (ev_c (v := .int ((5 : Nat) : Int))) (ev_var rfl) (el_from (n := 1) rfl (ev_var rfl) (sq_of (e6 _ _ g5))) fun p H7 e7 g7 => ⟨a, p, al, ns, _, 5, rfl, hA, ex_l ((e15.trans e6).trans e7) hS, h63, by decide, sq_of g7, ⟨by rw [List.length_drop, dlen], by rw [at0_drop]; exact d2⟩, fun v hv H8 e8 => ⟨v, rfl, (e6.trans e7).trans e8, hv⟩⟩)
    · exact ⟨v0, rfl, e6, hv0.over, by have := hv0.len; omega⟩
  rintro σ' H6 ⟨v, rfl, e6, hv⟩
  have e16 := e15.trans e6
  have hvo := hv.over
  have hvl : v.length ≤ 400 := hv.len
  have low := hA.low
  -- at
  obtain ⟨n, hn, en⟩ := int_mod (x := at0 rr 8) (n := v.length + 1) (by omega)
  have en : at0 rr 8 % ((v.length : Int) + 1) = (n : Int) := en
  refine q_asg (v := .int (n : Int)) (ev_is (ev_mod (j := (v.length : Int) + 1) (by omega) (ev_int (ev_atI (sq_of (e6 _ _ g5)) (i := 8) (by omega) rfl (ev_var rfl) ev_c)) (ev_add (ev_lenS (by omega) (ev_var rfl)) ev_c)) (by rw [en])) fun H7 e7 => ?_
  have e17 := e16.trans e7
  refine q_asgL (el_digs (ss := [36, 401, 95, 2, 401, 95, 2]) (cel e17 rfl (by decide)) (el_lst (ea_cons ev_c (ea_cons ev_c (ea_cons ev_c (ea_cons ev_c (ea_cons ev_c (ea_cons ev_c (ea_cons ev_c ea_nil))))))) (by show 7 ≤ 100000; decide)) (by decide) (fun i hi => ?_)) fun sp2 H8 hsp e8 g8 => ?_
  · have k : ∀ i, i < 7 → 0 < at0 [36, 401, 95, 2, 401, 95, 2] i ∧ at0 [36, 401, 95, 2, 401, 95, 2] i < 18446744073709551616 := by decide +kernel
    exact k i hi
  have e18 := e17.trans e8
  have dl2 : (digits (cell ns 3) [36, 401, 95, 2, 401, 95, 2]).length = 7 := digits_len _ _
  generalize digits (cell ns 3) [36, 401, 95, 2, 401, 95, 2] = r2 at *
  -- wider
  refine q_callD (vs := [tx al, .int (at0 r2 0)]) (dvs := []) (ea_cons (ev_var rfl) (ea_cons (ev_atI (sq_of g8) (i := 0) (by omega) rfl (ev_var rfl) ev_c) ea_nil)) fun H9 e9 => ⟨al, _, rfl, hA, fun al2 hA2 H10 e10 => ?_⟩
  have e810 := e9.trans e10
  have e110 := e18.trans e810
  have g10 := e810 _ _ g8
  -- spoilt
  refine q_asgX (run_c4E (ev_var rfl) (ev_var rfl) (ev_slS (hi := some ((398 : Nat) : Int)) (by omega) (ev_var rfl) eo_none (eo_some ev_c)) (el_from (n := 1) rfl (ev_var rfl) (sq_of g10)) fun p H11 e11 g11 => ⟨al, al2, _, p, _, rfl, hA, hA2, fun c hc => low c (hvo c (cutL_sub c hc)), by have := cutL_len (l := v) (lo := none) (hi := some ((398 : Nat) : Int)); omega, sq_of g11, by rw [List.length_drop, dl2], fun u hu hul H12 e12' => ?_⟩)
  have e112 := (e110.trans e11).trans e12'
  -- wrong
  refine q_asgX (run_c2L (ev_var rfl) (el_digs (ss := [9, 6, 30, 12]) (cel e112 rfl (by decide)) (el_lst (ea_cons ev_c (ea_cons ev_c (ea_cons ev_c (ea_cons ev_c ea_nil)))) (by show 4 ≤ 100000; decide)) (by decide) (fun i hi => ?_)) fun p H13 e13' g13 => ⟨al, p, _, rfl, hA, sq_of g13, digits_len _ _, digits_at (i := 2) (by decide) (by decide), digits_at (i := 3) (by decide) (by decide), fun z hz hzl hz2 H14 e14 => ?_⟩)
  · have k : ∀ i, i < 4 → 0 < at0 [9, 6, 30, 12] i ∧ at0 [9, 6, 30, 12] i < 18446744073709551616 := by decide +kernel
    exact k i hi
  have e114 := (e112.trans e13').trans e14
  -- due
  have hbl := blk_len2 hA hvo (by omega)
  have hb9 : (blk al (cutW v)).length ≤ 9000 := by
    have ko := cut_ok (al := al) v hvo
    have few : (cutW v).1.length ≤ v.length := ko.few
    rw [blk_cut_len hA hvo]
    have h1 := rch_le hA.six hA.pos ((cutW v).1.length + 1) (by omega)
    have h2 := wid_13 (n := (cutW v).1.length + 1) (by omega) (by omega)
    unfold bln
    omega
  have hbs : ∀ c ∈ blk al (cutW v), c < 1114112 := fun c hc => by rcases blk_low hA hvo c hc with rfl | rfl <;> decide
  have pr : ∀ {ta tb : TE} {σ : L2.St} {H' : Hp}, Ev ta σ H' (tx al) → Ev tb σ H' (tx v) → Ev (tCall spPress [] E0 (tCons ta (tCons tb tNil))) σ H' (tx (blk al (cutW v))) := fun h1 h2 => ev_call (ea_cons h1 (ea_cons h2 ea_nil)) (sv_press hA hvo (by omega))
  refine q_asg (v := tx (blk al (cutW v))) (ev_is (ev_joinLB (ev_is ev_c (by rw [nil_is])) (el_call (ea_cons (ev_var rfl) (ea_cons (ev_var rfl) ea_nil)) (sl_ns hA hvo (by omega))) (by rw [bnums_flat]; omega)) (by rw [bnums_flat])) fun H15 e15' => ?_
  refine q_asg (pr (ev_var rfl) (ev_var rfl)) fun H16 e16' => ?_
  generalize hB : blk al (cutW v) = B at *
  refine q_asg (ev_reprS (ev_var rfl) hbs hb9) fun H17 e17' => ?_
  have e117 := ((e114.trans e15').trans e16').trans e17'
  refine q_skip (et_is (et_or (et_not (et_B (ev_cb (ea_cons (ev_var rfl) (ea_cons ev_c ea_nil)) (rc_isiS (b := true) (by decide +kernel))))) (fun _ => et_neS (ev_var rfl) (ev_var rfl))) (by rw [decide_eq_true rfl]; rfl)) fun H18 e18' => ?_
  refine q_skip (et_is (et_or (et_not (et_B (ev_call (ea_cons (ev_var rfl) (ea_cons (ev_var rfl) ea_nil)) (sv_jud hA (by omega))))) (fun _ => et_or (et_not (et_B (ev_call (ea_cons (ev_var rfl) (ea_cons (ev_var rfl) ea_nil)) (sv_jud hA2 (by omega))))) (fun _ => et_not (et_B (ev_call (ea_cons (ev_var rfl) (ea_cons (ev_var rfl) ea_nil)) (sv_jud hA2 (by omega))))))) rfl) fun H19 e19 => ?_
  refine q_skip (et_is (et_not (et_B (ev_c2L (xs := [v, u, []].map tx) (ev_var rfl) (el_eq (el_lst (ea_cons (ev_var rfl) (ea_cons (ev_var rfl) (ea_cons (ev_is (w := tx []) ev_c (by rw [mt_is])) ea_nil))) (by show 3 ≤ 100000; decide)) rfl) fun p H1 e g => fun H2 e2 Q q _ => ⟨z, p, [v, u, []], rfl, hz, by omega, fun c hc => by have := hzl c hc; omega, e2 _ _ g, by show 3 ≤ 100; decide, fun x hx => by
    simp only [List.mem_cons, List.not_mem_nil, or_false] at hx
    rcases hx with rfl | rfl | rfl
    · omega
    · omega
    · decide, q⟩))) rfl) fun H20 e20 => ?_
  have c1 := cutL_len (l := v) (lo := none) (hi := some (n : Int))
  have c2 := cutL_len (l := v) (lo := some (n : Int)) (hi := none)
  have hcp : ∀ {H' : Hp}, SpV spCp ([tx al, tx v, tx B] ++ []) H' (.bl true) := fun {H'} => by
    rw [← hB]
    exact sv_cp hA hvo (by omega)
  refine q_skip (et_is (et_or (et_not (et_B (ev_call (ea_cons (ev_var rfl) (ea_cons (ev_slS (hi := some (n : Int)) (by omega) (ev_var rfl) eo_none (eo_some (ev_var rfl))) ea_nil)) (sv_jud hA (by omega))))) (fun _ => et_or (et_not (et_B (ev_call (ea_cons (ev_var rfl) (ea_cons (ev_slS (lo := some (n : Int)) (by omega) (ev_var rfl) (eo_some (ev_var rfl)) eo_none) ea_nil)) (sv_jud hA (by omega))))) (fun _ => et_not (et_B (ev_call (ea_cons (ev_var rfl) (ea_cons (ev_var rfl) (ea_cons (ev_var rfl) ea_nil))) hcp))))) rfl) fun H21 e21 => ?_
  have e121 := (((e117.trans e18').trans e19).trans e20).trans e21
  refine q_skip (et_is (et_not (et_B (ev_call (ea_cons (ev_var rfl) (ea_cons (ev_var rfl) ea_nil)) (sv_bp (ex_l e121 hS) h63 hA)))) rfl) fun H22 e22 => ?_
  have prN : ∀ {H' : Hp}, SpV spPress ([tx al, tx v] ++ []) H' (tx B) := fun {H'} => by
    rw [← hB]
    exact sv_press hA hvo (by omega)
  exact s_ret (ev_andV (ev_is (w := .bl true) (ev_op (ev_reprS (ev_callN0 (zs := [tx v, tx al]) (z := tx B) (ea_cons (ev_var rfl) (ea_cons (ev_var rfl) ea_nil)) rfl prN) hbs hb9) (ev_var rfl) (rv_eq rfl)) (by rw [decide_eq_true rfl])) (fun _ => ev_call (ea_cons (ev_var rfl) (ea_cons (ev_var rfl) ea_nil)) (sv_jud hA (by omega)))) fun H23 e23 => q H23
end
end Ver
namespace Ver
open PySem PySem.Spec PyProof.Rows L2 Evl
/-! ### the law's own call: callerA has no guard under way -/
section
variable {P : Program} {w : World} {K : PySem.W.Frag} {mg mb : Str → Option Value} {k : Nat} {fa a : Addr} {fd : FuncData} {x : Str} {sp : Sp} {s1 : Shared} {vs : List Value} {ns : List Int}
/-- out of an abstract heap that tracks the script at most -/
theorem law_fromG (KX : K.In s1.heap) (hns : s1.heap.Ns mainGlobals mg) (hb : s1.heap.Ns builtinsNs mb) (hbb : ∀ y : Str, y ≠ "__name__" → mb y = bootBuiltins y) (lim : s1.heap.NoLimit) (gs : s1.gens = #[])
    (ha : s1.heap.get? a = some { cls := .type "list", data := .seq vs.toArray }) (room : Room k callerA)
    (F : ∀ bs : Heap, K.In bs → bs.Ns mainGlobals mg → FnG P w K mg bs CX0 k fa fd [x] sp) (bind : ∀ (s : Shared) (u : Value), BindsTo s fd ⟨[u], []⟩ [(x, u)])
    (H : Hp) (only : L2.Only H) (said : sp [.ref a] H (fun v _ => v = .bl true) fun _ _ _ => False) (hok : HOk P w H s1.heap) (one : ∀ b, H b ≠ none → b = a) (own : H a ≠ none → K.lookup a = none) :
    codeAny (model P w) callerA (.call (.ref fa) ⟨[.ref a], []⟩) (fun r s' => r = .ok (.ret (.bool true)) ∧ OldK s1.heap s'.heap ∧ s'.os = s1.os ∧ AllBare s'.gens) s1 := by
  have free : ∀ b, b ≠ a → H b = none := fun b hb => Classical.byContradiction fun z => hb (one b z)
  have kept : ∀ {b : Addr} {m : Str → Option Value}, s1.heap.Ns b m → (hidT s1.heap H).Ns b m := by
    rintro b m ⟨o, es, ep, h1, h2, h3⟩
    refine ⟨o, es, ep, hidT_get h1 (free b fun z => ?_), h2, h3⟩
    subst z
    rw [ha] at h1
    cases h1
    cases (show Data.seq vs.toArray _ = Data.dict es ep from h2)
  have inB : K.In (hidT s1.heap H) := fun b o e => by
    refine hidT_get (KX b o e) (Classical.byContradiction fun z => ?_)
    have hba := one b z
    subst hba
    rw [own z] at e
    cases e
  have md : Mod K mg (hidT s1.heap H) := by
    obtain ⟨mc, l1, l2⟩ := lim
    exact ⟨inB, kept hns, ⟨mb, kept hb, hbb⟩, mc, kept l1, l2⟩
  have env : Env0 P w K mg (hidT s1.heap H) callerA [] s1 H := by
    refine ⟨rfl, md, fun b o z => of_hidT z, Nat.le_of_eq (hidT_size _ _), trivial, fun b z => ?_, hok, .of_eq gs⟩
    exact absurd (show b ∈ ([] : List Addr) from z) List.not_mem_nil
  have run := (F _ inB (kept hns)).runs callerA [] s1 H ⟨[.ref a], []⟩ [.ref a] [.ref a] _ _ rfl room env (bind s1 (.ref a)) (.cons rfl .nil) said
  refine codeAny_mono run ?_
  intro r s' h
  match r, h with
  | .error e, h => exact h.elim
  | .ok (.ret u), h =>
    obtain ⟨v, H', os, bare, un, ok2, rv, hv⟩ := h
    have hv : v = .bl true := hv
    subst hv
    obtain rfl : u = Value.bool true := rv
    refine ⟨rfl, OldK.of_keep fun b o z => ?_, os, bare⟩
    by_cases c : H b = none
    · exact un.keep b o z c (fun y => absurd (show b ∈ ([] : List Addr) from y) List.not_mem_nil) List.not_mem_nil
    · rcases only b with y | ⟨ob, xs, y⟩
      · exact absurd y c
      · have y2 := un.frzs b ob _ y
        have f1 := (hok b _ y).1
        have f2 := (ok2 b _ y2).1
        rw [z] at f1
        cases f1
        exact f2
theorem law_goG (KX : K.In s1.heap) (hns : s1.heap.Ns mainGlobals mg) (hb : s1.heap.Ns builtinsNs mb) (hbb : ∀ y : Str, y ≠ "__name__" → mb y = bootBuiltins y) (lim : s1.heap.NoLimit) (gs : s1.gens = #[])
    (ha : s1.heap.get? a = some { cls := .type "list", data := .seq vs.toArray }) (hints : IntsAre vs ns) (hl : ns.length ≤ sizeLine) (room : Room k callerA)
    (F : ∀ bs : Heap, K.In bs → bs.Ns mainGlobals mg → FnG P w K mg bs CX0 k fa fd [x] sp) (bind : ∀ (s : Shared) (u : Value), BindsTo s fd ⟨[u], []⟩ [(x, u)])
    (said : ∀ H : Hp, L2.Only H → SqL K H a (ns.map V.int) → sp [.ref a] H (fun v _ => v = .bl true) fun _ _ _ => False) :
    codeAny (model P w) callerA (.call (.ref fa) ⟨[.ref a], []⟩) (fun r s' => r = .ok (.ret (.bool true)) ∧ OldK s1.heap s'.heap ∧ s'.os = s1.os ∧ AllBare s'.gens) s1 := by
  have rv := L2.vals_ints hints
  have len := hints.length
  by_cases c : K.lookup a = none
  · let o : Obj := { cls := .type "list", data := .seq vs.toArray }
    let H : Hp := fun b => if b = a then some (.frz o (.lst (ns.map V.int))) else none
    have at_ : H a = some (.frz o (.lst (ns.map V.int))) := if_pos rfl
    have no_ : ∀ b, b ≠ a → H b = none := fun b z => if_neg z
    have only : L2.Only H := fun b => by
      by_cases z : b = a
      · subst z
        exact .inr ⟨_, _, at_⟩
      · exact .inl (no_ b z)
    refine law_fromG KX hns hb hbb lim gs ha room F bind H only (said H only (.inl (.inr ⟨o, at_⟩))) (fun b u z => ?_) (fun b z => Classical.byContradiction fun y => z (no_ b y)) fun _ => c
    by_cases y : b = a
    · subst y
      rw [at_] at z
      cases z
      exact ⟨ha, by rw [List.length_map]; exact hl, vs, _, rv, ha⟩
    · rw [no_ b y] at z
      cases z
  · obtain ⟨o, ho⟩ := Option.ne_none_iff_exists'.mp c
    have z := KX a o ho
    rw [ha] at z
    cases z
    refine law_fromG KX hns hb hbb lim gs ha room F bind (fun _ => none) (fun _ => .inl rfl) (said _ (fun _ => .inl rfl) ?_) (fun b u z => by cases z) (fun b z => absurd rfl z) fun z => absurd rfl z
    exact .inr ⟨_, vs.toArray, _, ho, rfl, rfl, rfl, by rw [List.size_toArray, len]; exact hl, by simpa using rv⟩
end
/-- the end, from the law's promise where no guard is under way -/
theorem walkG {l : PySem.W.OpenLaw} {n k : Nat} {q : Program} {loose : List Str} {XP : (Str → Option Value) → Heap → Prop} {YP : World → Heap → Prop} {d : DefRec} {K : Params → PySem.W.Frag} {sp : World → Sp} {x : Str}
    (most : l.most = some n) (hn : n ≤ sizeLine) (nodef : d.params.defaults = []) (room : Room k callerA) (inK : ∀ (w : World) (h : Heap), YP w h → (K w.params).In h)
    (F : ∀ (w : World) (mg : Str → Option Value) (fa : Addr) (h : Heap), (K w.params).In h → h.Ns mainGlobals mg → mg d.name = some (.ref fa) →
      ∃ fd : FuncData, (∀ (s : Shared) (u : Value), BindsTo s fd ⟨[u], []⟩ [(x, u)]) ∧ ∀ bs : Heap, (K w.params).In bs → bs.Ns mainGlobals mg → FnG l.prog w (K w.params) mg bs CX0 k fa fd [x] (sp w))
    (said : ∀ (w : World) (H : Hp) (a : Addr) (ns : List Int), ns.length ≤ n → L2.Only H → SqL (K w.params) H a (ns.map V.int) → sp w [.ref a] H (fun v _ => v = .bl true) fun _ _ _ => False) :
    PySem.W.WalkO q loose XP YP l.row.toRowW d [] (fun f vs => PySem.call f vs) := by
  refine Att.attach_call most nodef ?_
  intro w s0 s1 mg mb fa o pm cd doc a vs ns G Y ho hd hcd hmg hobj hints hlen hg
  obtain ⟨fd, hb, hF⟩ := F w mg fa _ (inK w _ Y) G.T.g hmg
  exact law_goG (inK w _ Y) G.T.g G.T.b G.T.builtins G.T.nolimit hg hobj hints (Nat.le_trans hlen hn) room hF hb fun H hO hS => said w H a ns hlen hO hS
end Ver
namespace Ver
open PySem PySem.Spec PyProof.Rows L2
/-! ### the head by one kernel run: facts as tests -/
abbrev Fc : Type := PySem.W.Frag → Bool
def allF (fas : List (List Fc)) (K : PySem.W.Frag) : Bool := fas.all fun l => l.all fun f => f K
def obsH (fas : List (List Fc)) (fn : List He.FnD) (K : PySem.W.Frag) : He.Al := (allF fas K && fn.all fun d => (He.Fa.code d.at_ d.qual).ok K, fn.map fun d => He.fnObs K d.at_)
def SaysH (fas : List (List Fc)) (fn : List He.FnD) (K : PySem.W.Frag) : Prop := obsH fas fn K = He.valE fn
def obsHG (n : Nat) (fas : List (List Fc)) (fn : List He.FnD) (g : Addr → Option Obj) : He.Al := obsH fas fn (He.frG g (He.asG g n))
def hookH (n : Nat) (fas : List (List Fc)) (fn : List He.FnD) : PySem.W.Hook where
  α := He.Al
  obs := fun s => obsHG n fas fn s.heap.get?
  val := fun _ => He.valE fn
  says := fun _ h => ∃ K : PySem.W.Frag, K.In h ∧ SaysH fas fn K
  of := fun _ _ e => ⟨_, He.frG_in, e⟩
  keeps := fun _ _ _ ⟨K, hK, c⟩ k => ⟨K, PySem.W.Frag.In.keeps hK k, c⟩
theorem obsHG_eq {n : Nat} {fas : List (List Fc)} {fn : List He.FnD} {g : Addr → Option Obj} {s : Shared} (h : ∀ a, g a = s.heap.get? a) : obsHG n fas fn g = (hookH n fas fn).obs s := by
  have e : g = s.heap.get? := funext h
  rw [e] <;> rfl
section
variable {fas : List (List Fc)} {fn : List He.FnD} {K : PySem.W.Frag}
theorem SaysH.fact (c : SaysH fas fn K) (j i : Nat) {l : List Fc} {f : Fc} (h1 : fas[j]? = some l) (h2 : l[i]? = some f) : f K = true := by
  have c1 := (He.ba (show (allF fas K && fn.all fun d => (He.Fa.code d.at_ d.qual).ok K) = true from congrArg (fun z : He.Al => z.1) c)).1
  have c2 := List.all_eq_true.mp (show (fas.all fun l => l.all fun f => f K) = true from c1) l (List.mem_of_getElem? h1)
  exact List.all_eq_true.mp c2 f (List.mem_of_getElem? h2)
theorem SaysH.def_ (c : SaysH fas fn K) (i : Nat) {d : He.FnD} (h : fn[i]? = some d) :
    ∃ oc od osl kV doc pm an cdv ct, K.lookup (He.fAd K d.at_) = some ⟨oc, od, .func (PySem.W.fnOf d.name d.qual d.params d.body d.scope .none kV doc pm an cdv ct), osl⟩ ∧ PySem.W.codeIn K cdv d.qual = true := by
  have c2 := (He.ba (show (allF fas K && fn.all fun d => (He.Fa.code d.at_ d.qual).ok K) = true from congrArg (fun z : He.Al => z.1) c)).2
  have e : fn.map (fun d => He.fnObs K d.at_) = fn.map He.FnD.val := congrArg (fun z : He.Al => z.2) c
  have e2 : (fn.map fun d => He.fnObs K d.at_)[i]? = (fn.map He.FnD.val)[i]? := by rw [e]
  rw [List.getElem?_map, List.getElem?_map, h] at e2
  exact He.fn_ok (Option.some.inj e2) (List.all_eq_true.mp c2 d (List.mem_of_getElem? h))
end
/-! ### the run's equation by pieces: one kernel run each -/
def KofS (n : Nat) (s : PySem.W.SharedT) : PySem.W.Frag := He.frG (HandSHeadRun.getT s) (He.asG (HandSHeadRun.getT s) n)
def obsN (fn : List He.FnD) (K : PySem.W.Frag) : He.Al := (fn.all fun d => (He.Fa.code d.at_ d.qual).ok K, fn.map fun d => He.fnObs K d.at_)
section
open PySem.W HandSHeadRun
def Pc (r : OpenRow) (M : Nat) (w : World) {β : Type} (f : SharedT → β) (b : β) : Prop := ∀ os : OsState, (endF (stepQ (denQ tabQ) r.prog w) M r.prog w os).map f = some b
theorem run_join {r : OpenRow} {q : Program} {M n : Nat} {loose : List PySem.Str} {w : World} {fas : List (List Fc)} {fn : List He.FnD}
    (h0 : Pc r M w (fun s => (looksF r.prog (boot_heap w.params) s.abs, seenQ q loose (importedModules r.prog.main.body) (fun s => xlAt q [] s && recOk r.toRowW.records s) s.abs)) (true, openGood q loose))
    (h1 : ∀ l ∈ fas, Pc r M w (fun s => l.all fun f => f (KofS n s)) true) (h2 : Pc r M w (fun s => obsN fn (KofS n s)) (He.valE fn)) :
    RunEq r q (hookH n fas fn) (fun s => obsHG n fas fn (getT s)) M loose w := by
  intro os
  have a0 := h0 os
  have a2 := h2 os
  have a1 := fun l hl => h1 l hl os
  generalize endF (stepQ (denQ tabQ) r.prog w) M r.prog w os = o at a0 a1 a2 ⊢
  cases o with
  | none => cases a0
  | some s =>
    have b0 : (looksF r.prog (boot_heap w.params) s.abs, seenQ q loose (importedModules r.prog.main.body) (fun s => xlAt q [] s && recOk r.toRowW.records s) s.abs) = (true, openGood q loose) := Option.some.inj a0
    have b2 : obsN fn (KofS n s) = He.valE fn := Option.some.inj a2
    have b1 : allF fas (KofS n s) = true := List.all_eq_true.mpr fun l hl => Option.some.inj (a1 l hl)
    have c1 : (fn.all fun d => (He.Fa.code d.at_ d.qual).ok (KofS n s)) = true := congrArg (fun z : He.Al => z.1) b2
    have c2 : (fn.map fun d => He.fnObs (KofS n s) d.at_) = fn.map He.FnD.val := congrArg (fun z : He.Al => z.2) b2
    have d : obsHG n fas fn (getT s) = He.valE fn := by
      show (allF fas (KofS n s) && fn.all fun d => (He.Fa.code d.at_ d.qual).ok (KofS n s), fn.map fun d => He.fnObs (KofS n s) d.at_) = _
      rw [b1, c1, c2]
      rfl
    show some (looksF r.prog (boot_heap w.params) s.abs, seenQ q loose (importedModules r.prog.main.body) (fun s => xlAt q [] s && recOk r.toRowW.records s) s.abs, obsHG n fas fn (getT s)) = some (true, openGood q loose, He.valE fn)
    rw [d]
    obtain ⟨e1, e2⟩ := Prod.mk.inj b0
    rw [e1, e2]
end
/-! ### tests of an error class, of a constant -/
def xcB (K : PySem.W.Frag) (C : Addr) : Bool := match K.lookup C with
  | some ⟨.type "type", _, .cls cd, sl⟩ => (match cd.mro, sl.toList with
    | .ref C' :: bm, [_, _, _, _, some (.builtin n), _] => C' == C && n == "ValueError.__new__" && !cd.hasDel && cd.hasDict && PySem.HandSPX.refsVE bm
    | _, _ => false)
  | _ => false
theorem xcB_ok {K : PySem.W.Frag} {C : Addr} (q : xcB K C = true) : ∃ nm qn N bs bm sn sub ab col dd k0 k1 k2 k3 k5, K.lookup C = some (excClassObj nm qn C N bs bm true sn sub ab col dd k0 k1 k2 k3 k5 "ValueError.__new__") ∧ PySem.HandSPX.refsVE bm = true := by
  unfold xcB at q
  split at q
  · rename_i dd cd sl ho
    split at q
    · rename_i C' bm k0 k1 k2 k3 n k5 hm hs
      simp only [Bool.and_eq_true, beq_iff_eq, Bool.not_eq_true'] at q
      obtain ⟨⟨⟨⟨rfl, rfl⟩, hdel⟩, hd'⟩, ht⟩ := q
      obtain ⟨nm, bs, mro, ns, qn, hd, sn, sub, ab, col, del⟩ := cd
      dsimp only at hm hdel hd'
      subst hm hdel hd'
      have hsl : sl = #[k0, k1, k2, k3, some (.builtin "ValueError.__new__"), k5] := by
        obtain ⟨l⟩ := sl
        simp only at hs
        rw [hs]
      subst hsl
      exact ⟨nm, qn, ns, bs, bm, sn, sub, ab, col, dd, k0, k1, k2, k3, k5, ho, ht⟩
    · cases q
  · cases q
def intB (K : PySem.W.Frag) (x : Str) (i : Int) : Bool := match PySem.W.nsIn K mainGlobals x with
  | some (some (.int j _)) => decide (j = i)
  | _ => false
theorem intB_ok {K : PySem.W.Frag} {x : Str} {i : Int} (h : intB K x i = true) : ∃ t, PySem.W.nsIn K mainGlobals x = some (some (.int i t)) := by
  unfold intB at h
  split at h
  · rename_i j t e
    rw [of_decide_eq_true h] at e
    exact ⟨t, e⟩
  · cases h
def strB (K : PySem.W.Frag) (x z : Str) : Bool := match PySem.W.nsIn K mainGlobals x with
  | some (some (.str y _)) => decide (y = z)
  | _ => false
theorem strB_ok {K : PySem.W.Frag} {x z : Str} (h : strB K x z = true) : ∃ t, PySem.W.nsIn K mainGlobals x = some (some (.str z t)) := by
  unfold strB at h
  split at h
  · rename_i j t e
    rw [of_decide_eq_true h] at e
    exact ⟨t, e⟩
  · cases h
def obB (a : Option Bool) (b : Bool) : Bool := match a with
  | some c => c == b
  | none => false
theorem obB_ok {a : Option Bool} {b : Bool} (h : obB a b = true) : a = some b := by
  unfold obB at h
  split at h
  · rw [eq_of_beq h]
  · cases h
def tyB (a : Option Value) (s : String) : Bool := match a with
  | some (.type t) => decide (t = s)
  | _ => false
theorem tyB_ok {a : Option Value} {s : String} (h : tyB a s = true) : a = some (.type s) := by
  unfold tyB at h
  split at h
  · rw [of_decide_eq_true h]
  · cases h
/-! ### the ends -/
theorem walkH {l : PySem.W.OpenLaw} {n k : Nat} {q : Program} {loose : List Str} {XP : (Str → Option Value) → Heap → Prop} {YP : World → Heap → Prop} {d : DefRec} {x : Str} {sp : World → PySem.W.Frag → Sp} {S : PySem.W.Frag → Prop}
    (most : l.most = some n) (hn : n ≤ sizeLine) (nodef : d.params.defaults = []) (room : Room k callerA) (inK : ∀ (w : World) (h : Heap), YP w h → ∃ K : PySem.W.Frag, K.In h ∧ S K)
    (F : ∀ (w : World) (mg : Str → Option Value) (fa : Addr) (h : Heap) (K : PySem.W.Frag), K.In h → S K → h.Ns mainGlobals mg → mg d.name = some (.ref fa) →
      ∃ fd : FuncData, (∀ (s : Shared) (u : Value), BindsTo s fd ⟨[u], []⟩ [(x, u)]) ∧ ∀ bs : Heap, K.In bs → bs.Ns mainGlobals mg → FnOk l.prog w K mg bs CX0 k fa fd [x] (sp w K))
    (said : ∀ (w : World) (K : PySem.W.Frag) (H : Hp) (a : Addr) (ns : List Int), ns.length ≤ n → L2.Only H → SqL K H a (ns.map V.int) → sp w K [.ref a] H (fun v _ => v = .bl true) fun _ _ _ => False) :
    PySem.W.WalkO q loose XP YP l.row.toRowW d [] (fun f vs => PySem.call f vs) := by
  refine L2.walk_ofE (n := n) (k := k) (x := x) (CX := CX0) most hn nodef room ?_ (fun _ _ _ _ z => z)
  intro w mg fa h Y G hmg
  obtain ⟨K, KX, c⟩ := inK w h Y
  obtain ⟨fd, hb, hF⟩ := F w mg fa h K KX c G hmg
  exact ⟨K, fd, sp w K, KX, hb, fun H a ns hl hO hS => said w K H a ns hl hO hS, hF⟩
theorem walkHG {l : PySem.W.OpenLaw} {n k : Nat} {q : Program} {loose : List Str} {XP : (Str → Option Value) → Heap → Prop} {YP : World → Heap → Prop} {d : DefRec} {x : Str} {sp : World → PySem.W.Frag → Sp} {S : PySem.W.Frag → Prop}
    (most : l.most = some n) (hn : n ≤ sizeLine) (nodef : d.params.defaults = []) (room : Room k callerA) (inK : ∀ (w : World) (h : Heap), YP w h → ∃ K : PySem.W.Frag, K.In h ∧ S K)
    (F : ∀ (w : World) (mg : Str → Option Value) (fa : Addr) (h : Heap) (K : PySem.W.Frag), K.In h → S K → h.Ns mainGlobals mg → mg d.name = some (.ref fa) →
      ∃ fd : FuncData, (∀ (s : Shared) (u : Value), BindsTo s fd ⟨[u], []⟩ [(x, u)]) ∧ ∀ bs : Heap, K.In bs → bs.Ns mainGlobals mg → FnG l.prog w K mg bs CX0 k fa fd [x] (sp w K))
    (said : ∀ (w : World) (K : PySem.W.Frag) (H : Hp) (a : Addr) (ns : List Int), ns.length ≤ n → L2.Only H → SqL K H a (ns.map V.int) → sp w K [.ref a] H (fun v _ => v = .bl true) fun _ _ _ => False) :
    PySem.W.WalkO q loose XP YP l.row.toRowW d [] (fun f vs => PySem.call f vs) := by
  refine Att.attach_call most nodef ?_
  intro w s0 s1 mg mb fa o pm cd doc a vs ns G Y ho hd hcd hmg hobj hints hlen hg
  obtain ⟨K, KX, c⟩ := inK w _ Y
  obtain ⟨fd, hb, hF⟩ := F w mg fa _ K KX c G.T.g hmg
  exact law_goG KX G.T.g G.T.b G.T.builtins G.T.nolimit hg hobj hints (Nat.le_trans hlen hn) room hF hb fun H hO hS => said w K H a ns hlen hO hS
end Ver
namespace Ver
open PySem PySem.Spec PyProof.Rows L2 Evl
theorem at_mk {K : PySem.W.Frag} {h : Heap} {mg : Str → Option Value} {x : Str} {st : Stmt} {f : Addr} {oc : Value} {od an : Option Addr} {osl : Array (Option Value)} {kV doc pm cdv ct : Value} (X : K.In h) (G : h.Ns mainGlobals mg)
    (a : PySem.W.nsIn K mainGlobals x = some (some (.ref f))) (l : K.lookup f = some ⟨oc, od, .func (PySem.W.fnOf x x (defArgs st) (defBody st) (defScope st) .none kV doc pm an cdv ct), osl⟩) (c : PySem.W.codeIn K cdv x = true) (k : PySem.W.keepIn K (.ref f) = true) : At K mg x st :=
  ⟨⟨f, _, fun_mk l c k, PySem.W.mg_of X G a⟩⟩
theorem all_mk {l : PySem.W.OpenLaw} {w : World} {K : PySem.W.Frag} {h : Heap} {mg : Str → Option Value} {fa : Addr} (X : K.In h) (G : h.Ns mainGlobals mg) (hfa : mg "law" = some (.ref fa))
    {f0 : Addr} {od0 an0 : Option Addr} {sl0 : Array (Option Value)} {oc0 kV0 dc0 pm0 cd0 ct0 : Value}
    {f1 : Addr} {od1 an1 : Option Addr} {sl1 : Array (Option Value)} {oc1 kV1 dc1 pm1 cd1 ct1 : Value}
    {f2 : Addr} {od2 an2 : Option Addr} {sl2 : Array (Option Value)} {oc2 kV2 dc2 pm2 cd2 ct2 : Value}
    {f3 : Addr} {od3 an3 : Option Addr} {sl3 : Array (Option Value)} {oc3 kV3 dc3 pm3 cd3 ct3 : Value}
    {f4 : Addr} {od4 an4 : Option Addr} {sl4 : Array (Option Value)} {oc4 kV4 dc4 pm4 cd4 ct4 : Value}
    {f5 : Addr} {od5 an5 : Option Addr} {sl5 : Array (Option Value)} {oc5 kV5 dc5 pm5 cd5 ct5 : Value}
    {f6 : Addr} {od6 an6 : Option Addr} {sl6 : Array (Option Value)} {oc6 kV6 dc6 pm6 cd6 ct6 : Value}
    {f7 : Addr} {od7 an7 : Option Addr} {sl7 : Array (Option Value)} {oc7 kV7 dc7 pm7 cd7 ct7 : Value}
    {f8 : Addr} {od8 an8 : Option Addr} {sl8 : Array (Option Value)} {oc8 kV8 dc8 pm8 cd8 ct8 : Value}
    {f9 : Addr} {od9 an9 : Option Addr} {sl9 : Array (Option Value)} {oc9 kV9 dc9 pm9 cd9 ct9 : Value}
    {f10 : Addr} {od10 an10 : Option Addr} {sl10 : Array (Option Value)} {oc10 kV10 dc10 pm10 cd10 ct10 : Value}
    {f11 : Addr} {od11 an11 : Option Addr} {sl11 : Array (Option Value)} {oc11 kV11 dc11 pm11 cd11 ct11 : Value}
    {f12 : Addr} {od12 an12 : Option Addr} {sl12 : Array (Option Value)} {oc12 kV12 dc12 pm12 cd12 ct12 : Value}
    {f13 : Addr} {od13 an13 : Option Addr} {sl13 : Array (Option Value)} {oc13 kV13 dc13 pm13 cd13 ct13 : Value}
    {f14 : Addr} {od14 an14 : Option Addr} {sl14 : Array (Option Value)} {oc14 kV14 dc14 pm14 cd14 ct14 : Value}
    {f15 : Addr} {od15 an15 : Option Addr} {sl15 : Array (Option Value)} {oc15 kV15 dc15 pm15 cd15 ct15 : Value}
    {f16 : Addr} {od16 an16 : Option Addr} {sl16 : Array (Option Value)} {oc16 kV16 dc16 pm16 cd16 ct16 : Value}
    {f17 : Addr} {od17 an17 : Option Addr} {sl17 : Array (Option Value)} {oc17 kV17 dc17 pm17 cd17 ct17 : Value}
    {f18 : Addr} {od18 an18 : Option Addr} {sl18 : Array (Option Value)} {oc18 kV18 dc18 pm18 cd18 ct18 : Value}
    {f19 : Addr} {od19 an19 : Option Addr} {sl19 : Array (Option Value)} {oc19 kV19 dc19 pm19 cd19 ct19 : Value}
    {f20 : Addr} {od20 an20 : Option Addr} {sl20 : Array (Option Value)} {oc20 kV20 dc20 pm20 cd20 ct20 : Value}
    {f21 : Addr} {od21 an21 : Option Addr} {sl21 : Array (Option Value)} {oc21 kV21 dc21 pm21 cd21 ct21 : Value}
    {f22 : Addr} {od22 an22 : Option Addr} {sl22 : Array (Option Value)} {oc22 kV22 dc22 pm22 cd22 ct22 : Value}
    {f23 : Addr} {od23 an23 : Option Addr} {sl23 : Array (Option Value)} {oc23 kV23 dc23 pm23 cd23 ct23 : Value}
    {f24 : Addr} {od24 an24 : Option Addr} {sl24 : Array (Option Value)} {oc24 kV24 dc24 pm24 cd24 ct24 : Value}
    {f25 : Addr} {od25 an25 : Option Addr} {sl25 : Array (Option Value)} {oc25 kV25 dc25 pm25 cd25 ct25 : Value}
    {f26 : Addr} {od26 an26 : Option Addr} {sl26 : Array (Option Value)} {oc26 kV26 dc26 pm26 cd26 ct26 : Value}
    {f27 : Addr} {od27 an27 : Option Addr} {sl27 : Array (Option Value)} {oc27 kV27 dc27 pm27 cd27 ct27 : Value}
    {f28 : Addr} {od28 an28 : Option Addr} {sl28 : Array (Option Value)} {oc28 kV28 dc28 pm28 cd28 ct28 : Value}
    {f29 : Addr} {od29 an29 : Option Addr} {sl29 : Array (Option Value)} {oc29 kV29 dc29 pm29 cd29 ct29 : Value}
    {f30 : Addr} {od30 an30 : Option Addr} {sl30 : Array (Option Value)} {oc30 kV30 dc30 pm30 cd30 ct30 : Value}
    {f31 : Addr} {od31 an31 : Option Addr} {sl31 : Array (Option Value)} {oc31 kV31 dc31 pm31 cd31 ct31 : Value}
    {f32 : Addr} {od32 an32 : Option Addr} {sl32 : Array (Option Value)} {oc32 kV32 dc32 pm32 cd32 ct32 : Value}
    {f33 : Addr} {od33 an33 : Option Addr} {sl33 : Array (Option Value)} {oc33 kV33 dc33 pm33 cd33 ct33 : Value}
    {f34 : Addr} {od34 an34 : Option Addr} {sl34 : Array (Option Value)} {oc34 kV34 dc34 pm34 cd34 ct34 : Value}
    {f35 : Addr} {od35 an35 : Option Addr} {sl35 : Array (Option Value)} {oc35 kV35 dc35 pm35 cd35 ct35 : Value}
    {f36 : Addr} {od36 an36 : Option Addr} {sl36 : Array (Option Value)} {oc36 kV36 dc36 pm36 cd36 ct36 : Value}
    {f37 : Addr} {od37 an37 : Option Addr} {sl37 : Array (Option Value)} {oc37 kV37 dc37 pm37 cd37 ct37 : Value}
    {f38 : Addr} {od38 an38 : Option Addr} {sl38 : Array (Option Value)} {oc38 kV38 dc38 pm38 cd38 ct38 : Value}
    {f39 : Addr} {od39 an39 : Option Addr} {sl39 : Array (Option Value)} {oc39 kV39 dc39 pm39 cd39 ct39 : Value}
    {f40 : Addr} {od40 an40 : Option Addr} {sl40 : Array (Option Value)} {oc40 kV40 dc40 pm40 cd40 ct40 : Value}
    {f41 : Addr} {od41 an41 : Option Addr} {sl41 : Array (Option Value)} {oc41 kV41 dc41 pm41 cd41 ct41 : Value}
    {f42 : Addr} {od42 an42 : Option Addr} {sl42 : Array (Option Value)} {oc42 kV42 dc42 pm42 cd42 ct42 : Value}
    {f43 : Addr} {od43 an43 : Option Addr} {sl43 : Array (Option Value)} {oc43 kV43 dc43 pm43 cd43 ct43 : Value}
    {f44 : Addr} {od44 an44 : Option Addr} {sl44 : Array (Option Value)} {oc44 kV44 dc44 pm44 cd44 ct44 : Value}
    {C_Cut : Addr}
    {C_Round : Addr}
    {t_LETTERS : Tok}
    {t_MOST_LETTERS : Tok}
    (a0 : PySem.W.nsIn K mainGlobals "is_alphabet" = some (some (.ref f0)))
    (l0 : K.lookup f0 = some ⟨oc0, od0, .func (PySem.W.fnOf "is_alphabet" "is_alphabet" (defArgs s_is_alphabet) (defBody s_is_alphabet) (defScope s_is_alphabet) .none kV0 dc0 pm0 an0 cd0 ct0), sl0⟩)
    (c0 : PySem.W.codeIn K cd0 "is_alphabet" = true) (k0 : PySem.W.keepIn K (.ref f0) = true)
    (a1 : PySem.W.nsIn K mainGlobals "is_letter" = some (some (.ref f1)))
    (l1 : K.lookup f1 = some ⟨oc1, od1, .func (PySem.W.fnOf "is_letter" "is_letter" (defArgs s_is_letter) (defBody s_is_letter) (defScope s_is_letter) .none kV1 dc1 pm1 an1 cd1 ct1), sl1⟩)
    (c1 : PySem.W.codeIn K cd1 "is_letter" = true) (k1 : PySem.W.keepIn K (.ref f1) = true)
    (a2 : PySem.W.nsIn K mainGlobals "check_alphabet" = some (some (.ref f2)))
    (l2 : K.lookup f2 = some ⟨oc2, od2, .func (PySem.W.fnOf "check_alphabet" "check_alphabet" (defArgs s_check_alphabet) (defBody s_check_alphabet) (defScope s_check_alphabet) .none kV2 dc2 pm2 an2 cd2 ct2), sl2⟩)
    (c2 : PySem.W.codeIn K cd2 "check_alphabet" = true) (k2 : PySem.W.keepIn K (.ref f2) = true)
    (a3 : PySem.W.nsIn K mainGlobals "check_text" = some (some (.ref f3)))
    (l3 : K.lookup f3 = some ⟨oc3, od3, .func (PySem.W.fnOf "check_text" "check_text" (defArgs s_check_text) (defBody s_check_text) (defScope s_check_text) .none kV3 dc3 pm3 an3 cd3 ct3), sl3⟩)
    (c3 : PySem.W.codeIn K cd3 "check_text" = true) (k3 : PySem.W.keepIn K (.ref f3) = true)
    (a4 : PySem.W.nsIn K mainGlobals "is_whole" = some (some (.ref f4)))
    (l4 : K.lookup f4 = some ⟨oc4, od4, .func (PySem.W.fnOf "is_whole" "is_whole" (defArgs s_is_whole) (defBody s_is_whole) (defScope s_is_whole) .none kV4 dc4 pm4 an4 cd4 ct4), sl4⟩)
    (c4 : PySem.W.codeIn K cd4 "is_whole" = true) (k4 : PySem.W.keepIn K (.ref f4) = true)
    (a5 : PySem.W.nsIn K mainGlobals "is_number_below" = some (some (.ref f5)))
    (l5 : K.lookup f5 = some ⟨oc5, od5, .func (PySem.W.fnOf "is_number_below" "is_number_below" (defArgs s_is_number_below) (defBody s_is_number_below) (defScope s_is_number_below) .none kV5 dc5 pm5 an5 cd5 ct5), sl5⟩)
    (c5 : PySem.W.codeIn K cd5 "is_number_below" = true) (k5 : PySem.W.keepIn K (.ref f5) = true)
    (a6 : PySem.W.nsIn K mainGlobals "as_tuples" = some (some (.ref f6)))
    (l6 : K.lookup f6 = some ⟨oc6, od6, .func (PySem.W.fnOf "as_tuples" "as_tuples" (defArgs s_as_tuples) (defBody s_as_tuples) (defScope s_as_tuples) .none kV6 dc6 pm6 an6 cd6 ct6), sl6⟩)
    (c6 : PySem.W.codeIn K cd6 "as_tuples" = true) (k6 : PySem.W.keepIn K (.ref f6) = true)
    (a7 : PySem.W.nsIn K mainGlobals "check_rows" = some (some (.ref f7)))
    (l7 : K.lookup f7 = some ⟨oc7, od7, .func (PySem.W.fnOf "check_rows" "check_rows" (defArgs s_check_rows) (defBody s_check_rows) (defScope s_check_rows) .none kV7 dc7 pm7 an7 cd7 ct7), sl7⟩)
    (c7 : PySem.W.codeIn K cd7 "check_rows" = true) (k7 : PySem.W.keepIn K (.ref f7) = true)
    (a8 : PySem.W.nsIn K mainGlobals "pieces_of" = some (some (.ref f8)))
    (l8 : K.lookup f8 = some ⟨oc8, od8, .func (PySem.W.fnOf "pieces_of" "pieces_of" (defArgs s_pieces_of) (defBody s_pieces_of) (defScope s_pieces_of) .none kV8 dc8 pm8 an8 cd8 ct8), sl8⟩)
    (c8 : PySem.W.codeIn K cd8 "pieces_of" = true) (k8 : PySem.W.keepIn K (.ref f8) = true)
    (a9 : PySem.W.nsIn K mainGlobals "starts_of" = some (some (.ref f9)))
    (l9 : K.lookup f9 = some ⟨oc9, od9, .func (PySem.W.fnOf "starts_of" "starts_of" (defArgs s_starts_of) (defBody s_starts_of) (defScope s_starts_of) .none kV9 dc9 pm9 an9 cd9 ct9), sl9⟩)
    (c9 : PySem.W.codeIn K cd9 "starts_of" = true) (k9 : PySem.W.keepIn K (.ref f9) = true)
    (a10 : PySem.W.nsIn K mainGlobals "cut_of" = some (some (.ref f10)))
    (l10 : K.lookup f10 = some ⟨oc10, od10, .func (PySem.W.fnOf "cut_of" "cut_of" (defArgs s_cut_of) (defBody s_cut_of) (defScope s_cut_of) .none kV10 dc10 pm10 an10 cd10 ct10), sl10⟩)
    (c10 : PySem.W.codeIn K cd10 "cut_of" = true) (k10 : PySem.W.keepIn K (.ref f10) = true)
    (a11 : PySem.W.nsIn K mainGlobals "width" = some (some (.ref f11)))
    (l11 : K.lookup f11 = some ⟨oc11, od11, .func (PySem.W.fnOf "width" "width" (defArgs s_width) (defBody s_width) (defScope s_width) .none kV11 dc11 pm11 an11 cd11 ct11), sl11⟩)
    (c11 : PySem.W.codeIn K cd11 "width" = true) (k11 : PySem.W.keepIn K (.ref f11) = true)
    (a12 : PySem.W.nsIn K mainGlobals "number_bits" = some (some (.ref f12)))
    (l12 : K.lookup f12 = some ⟨oc12, od12, .func (PySem.W.fnOf "number_bits" "number_bits" (defArgs s_number_bits) (defBody s_number_bits) (defScope s_number_bits) .none kV12 dc12 pm12 an12 cd12 ct12), sl12⟩)
    (c12 : PySem.W.codeIn K cd12 "number_bits" = true) (k12 : PySem.W.keepIn K (.ref f12) = true)
    (a13 : PySem.W.nsIn K mainGlobals "free_places" = some (some (.ref f13)))
    (l13 : K.lookup f13 = some ⟨oc13, od13, .func (PySem.W.fnOf "free_places" "free_places" (defArgs s_free_places) (defBody s_free_places) (defScope s_free_places) .none kV13 dc13 pm13 an13 cd13 ct13), sl13⟩)
    (c13 : PySem.W.codeIn K cd13 "free_places" = true) (k13 : PySem.W.keepIn K (.ref f13) = true)
    (a14 : PySem.W.nsIn K mainGlobals "count_below" = some (some (.ref f14)))
    (l14 : K.lookup f14 = some ⟨oc14, od14, .func (PySem.W.fnOf "count_below" "count_below" (defArgs s_count_below) (defBody s_count_below) (defScope s_count_below) .none kV14 dc14 pm14 an14 cd14 ct14), sl14⟩)
    (c14 : PySem.W.codeIn K cd14 "count_below" = true) (k14 : PySem.W.keepIn K (.ref f14) = true)
    (a15 : PySem.W.nsIn K mainGlobals "place_numbers" = some (some (.ref f15)))
    (l15 : K.lookup f15 = some ⟨oc15, od15, .func (PySem.W.fnOf "place_numbers" "place_numbers" (defArgs s_place_numbers) (defBody s_place_numbers) (defScope s_place_numbers) .none kV15 dc15 pm15 an15 cd15 ct15), sl15⟩)
    (c15 : PySem.W.codeIn K cd15 "place_numbers" = true) (k15 : PySem.W.keepIn K (.ref f15) = true)
    (a16 : PySem.W.nsIn K mainGlobals "press" = some (some (.ref f16)))
    (l16 : K.lookup f16 = some ⟨oc16, od16, .func (PySem.W.fnOf "press" "press" (defArgs s_press) (defBody s_press) (defScope s_press) .none kV16 dc16 pm16 an16 cd16 ct16), sl16⟩)
    (c16 : PySem.W.codeIn K cd16 "press" = true) (k16 : PySem.W.keepIn K (.ref f16) = true)
    (a17 : PySem.W.nsIn K mainGlobals "turned_letters" = some (some (.ref f17)))
    (l17 : K.lookup f17 = some ⟨oc17, od17, .func (PySem.W.fnOf "turned_letters" "turned_letters" (defArgs s_turned_letters) (defBody s_turned_letters) (defScope s_turned_letters) .none kV17 dc17 pm17 an17 cd17 ct17), sl17⟩)
    (c17 : PySem.W.codeIn K cd17 "turned_letters" = true) (k17 : PySem.W.keepIn K (.ref f17) = true)
    (a18 : PySem.W.nsIn K mainGlobals "_law_whole" = some (some (.ref f18)))
    (l18 : K.lookup f18 = some ⟨oc18, od18, .func (PySem.W.fnOf "_law_whole" "_law_whole" (defArgs s__law_whole) (defBody s__law_whole) (defScope s__law_whole) .none kV18 dc18 pm18 an18 cd18 ct18), sl18⟩)
    (c18 : PySem.W.codeIn K cd18 "_law_whole" = true) (k18 : PySem.W.keepIn K (.ref f18) = true)
    (a19 : PySem.W.nsIn K mainGlobals "_law_cell" = some (some (.ref f19)))
    (l19 : K.lookup f19 = some ⟨oc19, od19, .func (PySem.W.fnOf "_law_cell" "_law_cell" (defArgs s__law_cell) (defBody s__law_cell) (defScope s__law_cell) .none kV19 dc19 pm19 an19 cd19 ct19), sl19⟩)
    (c19 : PySem.W.codeIn K cd19 "_law_cell" = true) (k19 : PySem.W.keepIn K (.ref f19) = true)
    (a20 : PySem.W.nsIn K mainGlobals "_law_digits" = some (some (.ref f20)))
    (l20 : K.lookup f20 = some ⟨oc20, od20, .func (PySem.W.fnOf "_law_digits" "_law_digits" (defArgs s__law_digits) (defBody s__law_digits) (defScope s__law_digits) .none kV20 dc20 pm20 an20 cd20 ct20), sl20⟩)
    (c20 : PySem.W.codeIn K cd20 "_law_digits" = true) (k20 : PySem.W.keepIn K (.ref f20) = true)
    (a21 : PySem.W.nsIn K mainGlobals "_law_signs" = some (some (.ref f21)))
    (l21 : K.lookup f21 = some ⟨oc21, od21, .func (PySem.W.fnOf "_law_signs" "_law_signs" (defArgs s__law_signs) (defBody s__law_signs) (defScope s__law_signs) .none kV21 dc21 pm21 an21 cd21 ct21), sl21⟩)
    (c21 : PySem.W.codeIn K cd21 "_law_signs" = true) (k21 : PySem.W.keepIn K (.ref f21) = true)
    (a22 : PySem.W.nsIn K mainGlobals "_law_free_word" = some (some (.ref f22)))
    (l22 : K.lookup f22 = some ⟨oc22, od22, .func (PySem.W.fnOf "_law_free_word" "_law_free_word" (defArgs s__law_free_word) (defBody s__law_free_word) (defScope s__law_free_word) .none kV22 dc22 pm22 an22 cd22 ct22), sl22⟩)
    (c22 : PySem.W.codeIn K cd22 "_law_free_word" = true) (k22 : PySem.W.keepIn K (.ref f22) = true)
    (a23 : PySem.W.nsIn K mainGlobals "_law_counting_word" = some (some (.ref f23)))
    (l23 : K.lookup f23 = some ⟨oc23, od23, .func (PySem.W.fnOf "_law_counting_word" "_law_counting_word" (defArgs s__law_counting_word) (defBody s__law_counting_word) (defScope s__law_counting_word) .none kV23 dc23 pm23 an23 cd23 ct23), sl23⟩)
    (c23 : PySem.W.codeIn K cd23 "_law_counting_word" = true) (k23 : PySem.W.keepIn K (.ref f23) = true)
    (a24 : PySem.W.nsIn K mainGlobals "_law_word" = some (some (.ref f24)))
    (l24 : K.lookup f24 = some ⟨oc24, od24, .func (PySem.W.fnOf "_law_word" "_law_word" (defArgs s__law_word) (defBody s__law_word) (defScope s__law_word) .none kV24 dc24 pm24 an24 cd24 ct24), sl24⟩)
    (c24 : PySem.W.codeIn K cd24 "_law_word" = true) (k24 : PySem.W.keepIn K (.ref f24) = true)
    (a25 : PySem.W.nsIn K mainGlobals "_law_long_word" = some (some (.ref f25)))
    (l25 : K.lookup f25 = some ⟨oc25, od25, .func (PySem.W.fnOf "_law_long_word" "_law_long_word" (defArgs s__law_long_word) (defBody s__law_long_word) (defScope s__law_long_word) .none kV25 dc25 pm25 an25 cd25 ct25), sl25⟩)
    (c25 : PySem.W.codeIn K cd25 "_law_long_word" = true) (k25 : PySem.W.keepIn K (.ref f25) = true)
    (a26 : PySem.W.nsIn K mainGlobals "_law_cut" = some (some (.ref f26)))
    (l26 : K.lookup f26 = some ⟨oc26, od26, .func (PySem.W.fnOf "_law_cut" "_law_cut" (defArgs s__law_cut) (defBody s__law_cut) (defScope s__law_cut) .none kV26 dc26 pm26 an26 cd26 ct26), sl26⟩)
    (c26 : PySem.W.codeIn K cd26 "_law_cut" = true) (k26 : PySem.W.keepIn K (.ref f26) = true)
    (a27 : PySem.W.nsIn K mainGlobals "_law_width" = some (some (.ref f27)))
    (l27 : K.lookup f27 = some ⟨oc27, od27, .func (PySem.W.fnOf "_law_width" "_law_width" (defArgs s__law_width) (defBody s__law_width) (defScope s__law_width) .none kV27 dc27 pm27 an27 cd27 ct27), sl27⟩)
    (c27 : PySem.W.codeIn K cd27 "_law_width" = true) (k27 : PySem.W.keepIn K (.ref f27) = true)
    (a28 : PySem.W.nsIn K mainGlobals "_law_number" = some (some (.ref f28)))
    (l28 : K.lookup f28 = some ⟨oc28, od28, .func (PySem.W.fnOf "_law_number" "_law_number" (defArgs s__law_number) (defBody s__law_number) (defScope s__law_number) .none kV28 dc28 pm28 an28 cd28 ct28), sl28⟩)
    (c28 : PySem.W.codeIn K cd28 "_law_number" = true) (k28 : PySem.W.keepIn K (.ref f28) = true)
    (a29 : PySem.W.nsIn K mainGlobals "_law_numbers" = some (some (.ref f29)))
    (l29 : K.lookup f29 = some ⟨oc29, od29, .func (PySem.W.fnOf "_law_numbers" "_law_numbers" (defArgs s__law_numbers) (defBody s__law_numbers) (defScope s__law_numbers) .none kV29 dc29 pm29 an29 cd29 ct29), sl29⟩)
    (c29 : PySem.W.codeIn K cd29 "_law_numbers" = true) (k29 : PySem.W.keepIn K (.ref f29) = true)
    (a30 : PySem.W.nsIn K mainGlobals "_law_many_numbers" = some (some (.ref f30)))
    (l30 : K.lookup f30 = some ⟨oc30, od30, .func (PySem.W.fnOf "_law_many_numbers" "_law_many_numbers" (defArgs s__law_many_numbers) (defBody s__law_many_numbers) (defScope s__law_many_numbers) .none kV30 dc30 pm30 an30 cd30 ct30), sl30⟩)
    (c30 : PySem.W.codeIn K cd30 "_law_many_numbers" = true) (k30 : PySem.W.keepIn K (.ref f30) = true)
    (a31 : PySem.W.nsIn K mainGlobals "_law_wider" = some (some (.ref f31)))
    (l31 : K.lookup f31 = some ⟨oc31, od31, .func (PySem.W.fnOf "_law_wider" "_law_wider" (defArgs s__law_wider) (defBody s__law_wider) (defScope s__law_wider) .none kV31 dc31 pm31 an31 cd31 ct31), sl31⟩)
    (c31 : PySem.W.codeIn K cd31 "_law_wider" = true) (k31 : PySem.W.keepIn K (.ref f31) = true)
    (a32 : PySem.W.nsIn K mainGlobals "_law_spoilt" = some (some (.ref f32)))
    (l32 : K.lookup f32 = some ⟨oc32, od32, .func (PySem.W.fnOf "_law_spoilt" "_law_spoilt" (defArgs s__law_spoilt) (defBody s__law_spoilt) (defScope s__law_spoilt) .none kV32 dc32 pm32 an32 cd32 ct32), sl32⟩)
    (c32 : PySem.W.codeIn K cd32 "_law_spoilt" = true) (k32 : PySem.W.keepIn K (.ref f32) = true)
    (a33 : PySem.W.nsIn K mainGlobals "_law_no_signs" = some (some (.ref f33)))
    (l33 : K.lookup f33 = some ⟨oc33, od33, .func (PySem.W.fnOf "_law_no_signs" "_law_no_signs" (defArgs s__law_no_signs) (defBody s__law_no_signs) (defScope s__law_no_signs) .none kV33 dc33 pm33 an33 cd33 ct33), sl33⟩)
    (c33 : PySem.W.codeIn K cd33 "_law_no_signs" = true) (k33 : PySem.W.keepIn K (.ref f33) = true)
    (a34 : PySem.W.nsIn K mainGlobals "_law_first_strange" = some (some (.ref f34)))
    (l34 : K.lookup f34 = some ⟨oc34, od34, .func (PySem.W.fnOf "_law_first_strange" "_law_first_strange" (defArgs s__law_first_strange) (defBody s__law_first_strange) (defScope s__law_first_strange) .none kV34 dc34 pm34 an34 cd34 ct34), sl34⟩)
    (c34 : PySem.W.codeIn K cd34 "_law_first_strange" = true) (k34 : PySem.W.keepIn K (.ref f34) = true)
    (a35 : PySem.W.nsIn K mainGlobals "_law_kin" = some (some (.ref f35)))
    (l35 : K.lookup f35 = some ⟨oc35, od35, .func (PySem.W.fnOf "_law_kin" "_law_kin" (defArgs s__law_kin) (defBody s__law_kin) (defScope s__law_kin) .none kV35 dc35 pm35 an35 cd35 ct35), sl35⟩)
    (c35 : PySem.W.codeIn K cd35 "_law_kin" = true) (k35 : PySem.W.keepIn K (.ref f35) = true)
    (a36 : PySem.W.nsIn K mainGlobals "_law_answer" = some (some (.ref f36)))
    (l36 : K.lookup f36 = some ⟨oc36, od36, .func (PySem.W.fnOf "_law_answer" "_law_answer" (defArgs s__law_answer) (defBody s__law_answer) (defScope s__law_answer) .none kV36 dc36 pm36 an36 cd36 ct36), sl36⟩)
    (c36 : PySem.W.codeIn K cd36 "_law_answer" = true) (k36 : PySem.W.keepIn K (.ref f36) = true)
    (a37 : PySem.W.nsIn K mainGlobals "_law_judged" = some (some (.ref f37)))
    (l37 : K.lookup f37 = some ⟨oc37, od37, .func (PySem.W.fnOf "_law_judged" "_law_judged" (defArgs s__law_judged) (defBody s__law_judged) (defScope s__law_judged) .none kV37 dc37 pm37 an37 cd37 ct37), sl37⟩)
    (c37 : PySem.W.codeIn K cd37 "_law_judged" = true) (k37 : PySem.W.keepIn K (.ref f37) = true)
    (a38 : PySem.W.nsIn K mainGlobals "_law_refused" = some (some (.ref f38)))
    (l38 : K.lookup f38 = some ⟨oc38, od38, .func (PySem.W.fnOf "_law_refused" "_law_refused" (defArgs s__law_refused) (defBody s__law_refused) (defScope s__law_refused) .none kV38 dc38 pm38 an38 cd38 ct38), sl38⟩)
    (c38 : PySem.W.codeIn K cd38 "_law_refused" = true) (k38 : PySem.W.keepIn K (.ref f38) = true)
    (a39 : PySem.W.nsIn K mainGlobals "_law_cut_pressed" = some (some (.ref f39)))
    (l39 : K.lookup f39 = some ⟨oc39, od39, .func (PySem.W.fnOf "_law_cut_pressed" "_law_cut_pressed" (defArgs s__law_cut_pressed) (defBody s__law_cut_pressed) (defScope s__law_cut_pressed) .none kV39 dc39 pm39 an39 cd39 ct39), sl39⟩)
    (c39 : PySem.W.codeIn K cd39 "_law_cut_pressed" = true) (k39 : PySem.W.keepIn K (.ref f39) = true)
    (a40 : PySem.W.nsIn K mainGlobals "_law_beginning_pressed" = some (some (.ref f40)))
    (l40 : K.lookup f40 = some ⟨oc40, od40, .func (PySem.W.fnOf "_law_beginning_pressed" "_law_beginning_pressed" (defArgs s__law_beginning_pressed) (defBody s__law_beginning_pressed) (defScope s__law_beginning_pressed) .none kV40 dc40 pm40 an40 cd40 ct40), sl40⟩)
    (c40 : PySem.W.codeIn K cd40 "_law_beginning_pressed" = true) (k40 : PySem.W.keepIn K (.ref f40) = true)
    (a41 : PySem.W.nsIn K mainGlobals "law" = some (some (.ref f41)))
    (l41 : K.lookup f41 = some ⟨oc41, od41, .func (PySem.W.fnOf "law" "law" (defArgs s_law) (defBody s_law) (defScope s_law) .none kV41 dc41 pm41 an41 cd41 ct41), sl41⟩)
    (c41 : PySem.W.codeIn K cd41 "law" = true) (k41 : PySem.W.keepIn K (.ref f41) = true)
    {C_PressError : Addr}
    {C_BadAlphabet : Addr}
    {C_BadLetter : Addr}
    {C_BadRow : Addr}
    {C_BadTail : Addr}
    {C_BadRank : Addr}
    {C_NotBits : Addr}
    {C_BadIndex : Addr}
    {C_BadStanding : Addr}
    {C_BadRule : Addr}
    {C_AlphabetsDiffer : Addr}
    {C_DoesNotComeBack : Addr}
    {C_TooLarge : Addr}
    {C_NotWritten : Addr}
    {C_NoSuchText : Addr}
    {C_BadName : Addr}
    {C_NameTaken : Addr}
    {C_NoName : Addr}
    {C_EmptyRing : Addr}
    {C_NotInLot : Addr}
    {C_BadBuild : Addr}
    {C_BadGrowth : Addr}
    {C_EmptyText : Addr}
    {C_NothingToUndo : Addr}
    {C_NothingToRedo : Addr}
    {fi_BadAlphabet : Addr} {nm_BadAlphabet q_BadAlphabet : Str} {N_BadAlphabet : Addr} {bs_BadAlphabet bm_BadAlphabet : List Value} {sn_BadAlphabet : List Str} {sub_BadAlphabet : List Value} {ab_BadAlphabet : Bool} {col_BadAlphabet : Option Bool} {dd_BadAlphabet : Option Addr} {m0_BadAlphabet m1_BadAlphabet m2_BadAlphabet m3_BadAlphabet m5_BadAlphabet : Option Value} {ocE_BadAlphabet kVE_BadAlphabet dcE_BadAlphabet pmE_BadAlphabet cdE_BadAlphabet ctE_BadAlphabet : Value} {odE_BadAlphabet anE_BadAlphabet : Option Addr} {slE_BadAlphabet : Array (Option Value)}
    {fi_BadLetter : Addr} {nm_BadLetter q_BadLetter : Str} {N_BadLetter : Addr} {bs_BadLetter bm_BadLetter : List Value} {sn_BadLetter : List Str} {sub_BadLetter : List Value} {ab_BadLetter : Bool} {col_BadLetter : Option Bool} {dd_BadLetter : Option Addr} {m0_BadLetter m1_BadLetter m2_BadLetter m3_BadLetter m5_BadLetter : Option Value} {ocE_BadLetter kVE_BadLetter dcE_BadLetter pmE_BadLetter cdE_BadLetter ctE_BadLetter : Value} {odE_BadLetter anE_BadLetter : Option Addr} {slE_BadLetter : Array (Option Value)}
    (hn_get : PySem.W.specialIn K (.builtin "object.__class__") "__get__" = some (some (.builtin "getset_descriptor.__get__"))) (ht_get : PySem.W.takesIn K (.builtin "object.__class__") = some true)
    (aE_PressError : PySem.W.nsIn K mainGlobals "PressError" = some (some (.ref C_PressError)))
    (aE_BadAlphabet : PySem.W.nsIn K mainGlobals "BadAlphabet" = some (some (.ref C_BadAlphabet)))
    (aE_BadLetter : PySem.W.nsIn K mainGlobals "BadLetter" = some (some (.ref C_BadLetter)))
    (aE_BadRow : PySem.W.nsIn K mainGlobals "BadRow" = some (some (.ref C_BadRow)))
    (aE_BadTail : PySem.W.nsIn K mainGlobals "BadTail" = some (some (.ref C_BadTail)))
    (aE_BadRank : PySem.W.nsIn K mainGlobals "BadRank" = some (some (.ref C_BadRank)))
    (aE_NotBits : PySem.W.nsIn K mainGlobals "NotBits" = some (some (.ref C_NotBits)))
    (aE_BadIndex : PySem.W.nsIn K mainGlobals "BadIndex" = some (some (.ref C_BadIndex)))
    (aE_BadStanding : PySem.W.nsIn K mainGlobals "BadStanding" = some (some (.ref C_BadStanding)))
    (aE_BadRule : PySem.W.nsIn K mainGlobals "BadRule" = some (some (.ref C_BadRule)))
    (aE_AlphabetsDiffer : PySem.W.nsIn K mainGlobals "AlphabetsDiffer" = some (some (.ref C_AlphabetsDiffer)))
    (aE_DoesNotComeBack : PySem.W.nsIn K mainGlobals "DoesNotComeBack" = some (some (.ref C_DoesNotComeBack)))
    (aE_TooLarge : PySem.W.nsIn K mainGlobals "TooLarge" = some (some (.ref C_TooLarge)))
    (aE_NotWritten : PySem.W.nsIn K mainGlobals "NotWritten" = some (some (.ref C_NotWritten)))
    (aE_NoSuchText : PySem.W.nsIn K mainGlobals "NoSuchText" = some (some (.ref C_NoSuchText)))
    (aE_BadName : PySem.W.nsIn K mainGlobals "BadName" = some (some (.ref C_BadName)))
    (aE_NameTaken : PySem.W.nsIn K mainGlobals "NameTaken" = some (some (.ref C_NameTaken)))
    (aE_NoName : PySem.W.nsIn K mainGlobals "NoName" = some (some (.ref C_NoName)))
    (aE_EmptyRing : PySem.W.nsIn K mainGlobals "EmptyRing" = some (some (.ref C_EmptyRing)))
    (aE_NotInLot : PySem.W.nsIn K mainGlobals "NotInLot" = some (some (.ref C_NotInLot)))
    (aE_BadBuild : PySem.W.nsIn K mainGlobals "BadBuild" = some (some (.ref C_BadBuild)))
    (aE_BadGrowth : PySem.W.nsIn K mainGlobals "BadGrowth" = some (some (.ref C_BadGrowth)))
    (aE_EmptyText : PySem.W.nsIn K mainGlobals "EmptyText" = some (some (.ref C_EmptyText)))
    (aE_NothingToUndo : PySem.W.nsIn K mainGlobals "NothingToUndo" = some (some (.ref C_NothingToUndo)))
    (aE_NothingToRedo : PySem.W.nsIn K mainGlobals "NothingToRedo" = some (some (.ref C_NothingToRedo)))
    (ty_BadAlphabet : PySem.W.typeIn K (.ref C_BadAlphabet) = some (.type "type"))
    (kcE_BadAlphabet : PySem.W.keepIn K (.ref C_BadAlphabet) = true)
    (gaE_BadAlphabet : PySem.W.findIn K (.ref C_BadAlphabet) "__getattribute__" = some (some (.builtin "BaseException.__getattribute__")))
    (ggE_BadAlphabet : PySem.W.findIn K (.ref C_BadAlphabet) "__getattr__" = some none)
    (sbE_BadAlphabet : PySem.W.subIn K (.ref C_BadAlphabet) (.type "BaseException") = some true)
    (hdE_BadAlphabet : PySem.W.hasDictIn K C_BadAlphabet = true)
    (caE_BadAlphabet : PySem.W.findIn K (.ref C_BadAlphabet) "__class__" = some (some (.builtin "object.__class__")))
    (mrE_BadAlphabet : PySem.W.mroIn K C_BadAlphabet (.type "object") = some true)
    (xL_BadAlphabet : K.lookup C_BadAlphabet = some (excClassObj nm_BadAlphabet q_BadAlphabet C_BadAlphabet N_BadAlphabet bs_BadAlphabet bm_BadAlphabet true sn_BadAlphabet sub_BadAlphabet ab_BadAlphabet col_BadAlphabet dd_BadAlphabet m0_BadAlphabet m1_BadAlphabet m2_BadAlphabet m3_BadAlphabet m5_BadAlphabet "ValueError.__new__"))
    (hb_BadAlphabet : PySem.HandSPX.refsVE bm_BadAlphabet = true)
    (saE_BadAlphabet : PySem.W.findIn K (.ref C_BadAlphabet) "__setattr__" = some (some (.builtin "object.__setattr__")))
    (iE_BadAlphabet : PySem.W.findIn K (.ref C_BadAlphabet) "__init__" = some (some (.ref fi_BadAlphabet))) (tiE_BadAlphabet : PySem.W.typeIn K (.ref fi_BadAlphabet) = some (.type "function"))
    (lE_BadAlphabet : K.lookup fi_BadAlphabet = some ⟨ocE_BadAlphabet, odE_BadAlphabet, .func (PySem.W.fnOf "__init__" "BadAlphabet.__init__" (defArgs s_BadAlphabet___init__) (defBody s_BadAlphabet___init__) (defScope s_BadAlphabet___init__) .none kVE_BadAlphabet dcE_BadAlphabet pmE_BadAlphabet anE_BadAlphabet cdE_BadAlphabet ctE_BadAlphabet), slE_BadAlphabet⟩) (ccE_BadAlphabet : PySem.W.codeIn K cdE_BadAlphabet "BadAlphabet.__init__" = true) (kpE_BadAlphabet : PySem.W.keepIn K (.ref fi_BadAlphabet) = true)
    (nfE_BadAlphabet_alphabet : PySem.W.findIn K (.ref C_BadAlphabet) "alphabet" = some none)
    (kt_BadAlphabet_PressError : PySem.W.kitOne K (.ref C_BadAlphabet) (.ref C_PressError) = some true)
    (kt_BadAlphabet_BadAlphabet : PySem.W.kitOne K (.ref C_BadAlphabet) (.ref C_BadAlphabet) = some true)
    (kt_BadAlphabet_BadLetter : PySem.W.kitOne K (.ref C_BadAlphabet) (.ref C_BadLetter) = some false)
    (kt_BadAlphabet_BadRow : PySem.W.kitOne K (.ref C_BadAlphabet) (.ref C_BadRow) = some false)
    (kt_BadAlphabet_BadTail : PySem.W.kitOne K (.ref C_BadAlphabet) (.ref C_BadTail) = some false)
    (kt_BadAlphabet_BadRank : PySem.W.kitOne K (.ref C_BadAlphabet) (.ref C_BadRank) = some false)
    (kt_BadAlphabet_NotBits : PySem.W.kitOne K (.ref C_BadAlphabet) (.ref C_NotBits) = some false)
    (kt_BadAlphabet_BadIndex : PySem.W.kitOne K (.ref C_BadAlphabet) (.ref C_BadIndex) = some false)
    (kt_BadAlphabet_BadStanding : PySem.W.kitOne K (.ref C_BadAlphabet) (.ref C_BadStanding) = some false)
    (kt_BadAlphabet_BadRule : PySem.W.kitOne K (.ref C_BadAlphabet) (.ref C_BadRule) = some false)
    (kt_BadAlphabet_AlphabetsDiffer : PySem.W.kitOne K (.ref C_BadAlphabet) (.ref C_AlphabetsDiffer) = some false)
    (kt_BadAlphabet_DoesNotComeBack : PySem.W.kitOne K (.ref C_BadAlphabet) (.ref C_DoesNotComeBack) = some false)
    (kt_BadAlphabet_TooLarge : PySem.W.kitOne K (.ref C_BadAlphabet) (.ref C_TooLarge) = some false)
    (kt_BadAlphabet_NotWritten : PySem.W.kitOne K (.ref C_BadAlphabet) (.ref C_NotWritten) = some false)
    (kt_BadAlphabet_NoSuchText : PySem.W.kitOne K (.ref C_BadAlphabet) (.ref C_NoSuchText) = some false)
    (kt_BadAlphabet_BadName : PySem.W.kitOne K (.ref C_BadAlphabet) (.ref C_BadName) = some false)
    (kt_BadAlphabet_NameTaken : PySem.W.kitOne K (.ref C_BadAlphabet) (.ref C_NameTaken) = some false)
    (kt_BadAlphabet_NoName : PySem.W.kitOne K (.ref C_BadAlphabet) (.ref C_NoName) = some false)
    (kt_BadAlphabet_EmptyRing : PySem.W.kitOne K (.ref C_BadAlphabet) (.ref C_EmptyRing) = some false)
    (kt_BadAlphabet_NotInLot : PySem.W.kitOne K (.ref C_BadAlphabet) (.ref C_NotInLot) = some false)
    (kt_BadAlphabet_BadBuild : PySem.W.kitOne K (.ref C_BadAlphabet) (.ref C_BadBuild) = some false)
    (kt_BadAlphabet_BadGrowth : PySem.W.kitOne K (.ref C_BadAlphabet) (.ref C_BadGrowth) = some false)
    (kt_BadAlphabet_EmptyText : PySem.W.kitOne K (.ref C_BadAlphabet) (.ref C_EmptyText) = some false)
    (kt_BadAlphabet_NothingToUndo : PySem.W.kitOne K (.ref C_BadAlphabet) (.ref C_NothingToUndo) = some false)
    (kt_BadAlphabet_NothingToRedo : PySem.W.kitOne K (.ref C_BadAlphabet) (.ref C_NothingToRedo) = some false)
    (kt_BadAlphabet_VE : PySem.W.kitOne K (.ref C_BadAlphabet) (.type "ValueError") = some true)
    (ex_BadAlphabet_PressError : PySem.W.exmOne K (.ref C_BadAlphabet) (.ref C_PressError) = some true)
    (ty_BadLetter : PySem.W.typeIn K (.ref C_BadLetter) = some (.type "type"))
    (kcE_BadLetter : PySem.W.keepIn K (.ref C_BadLetter) = true)
    (gaE_BadLetter : PySem.W.findIn K (.ref C_BadLetter) "__getattribute__" = some (some (.builtin "BaseException.__getattribute__")))
    (ggE_BadLetter : PySem.W.findIn K (.ref C_BadLetter) "__getattr__" = some none)
    (sbE_BadLetter : PySem.W.subIn K (.ref C_BadLetter) (.type "BaseException") = some true)
    (hdE_BadLetter : PySem.W.hasDictIn K C_BadLetter = true)
    (caE_BadLetter : PySem.W.findIn K (.ref C_BadLetter) "__class__" = some (some (.builtin "object.__class__")))
    (mrE_BadLetter : PySem.W.mroIn K C_BadLetter (.type "object") = some true)
    (xL_BadLetter : K.lookup C_BadLetter = some (excClassObj nm_BadLetter q_BadLetter C_BadLetter N_BadLetter bs_BadLetter bm_BadLetter true sn_BadLetter sub_BadLetter ab_BadLetter col_BadLetter dd_BadLetter m0_BadLetter m1_BadLetter m2_BadLetter m3_BadLetter m5_BadLetter "ValueError.__new__"))
    (hb_BadLetter : PySem.HandSPX.refsVE bm_BadLetter = true)
    (saE_BadLetter : PySem.W.findIn K (.ref C_BadLetter) "__setattr__" = some (some (.builtin "object.__setattr__")))
    (iE_BadLetter : PySem.W.findIn K (.ref C_BadLetter) "__init__" = some (some (.ref fi_BadLetter))) (tiE_BadLetter : PySem.W.typeIn K (.ref fi_BadLetter) = some (.type "function"))
    (lE_BadLetter : K.lookup fi_BadLetter = some ⟨ocE_BadLetter, odE_BadLetter, .func (PySem.W.fnOf "__init__" "BadLetter.__init__" (defArgs s_BadLetter___init__) (defBody s_BadLetter___init__) (defScope s_BadLetter___init__) .none kVE_BadLetter dcE_BadLetter pmE_BadLetter anE_BadLetter cdE_BadLetter ctE_BadLetter), slE_BadLetter⟩) (ccE_BadLetter : PySem.W.codeIn K cdE_BadLetter "BadLetter.__init__" = true) (kpE_BadLetter : PySem.W.keepIn K (.ref fi_BadLetter) = true)
    (nfE_BadLetter_index : PySem.W.findIn K (.ref C_BadLetter) "index" = some none)
    (kt_BadLetter_PressError : PySem.W.kitOne K (.ref C_BadLetter) (.ref C_PressError) = some true)
    (kt_BadLetter_BadAlphabet : PySem.W.kitOne K (.ref C_BadLetter) (.ref C_BadAlphabet) = some false)
    (kt_BadLetter_BadLetter : PySem.W.kitOne K (.ref C_BadLetter) (.ref C_BadLetter) = some true)
    (kt_BadLetter_BadRow : PySem.W.kitOne K (.ref C_BadLetter) (.ref C_BadRow) = some false)
    (kt_BadLetter_BadTail : PySem.W.kitOne K (.ref C_BadLetter) (.ref C_BadTail) = some false)
    (kt_BadLetter_BadRank : PySem.W.kitOne K (.ref C_BadLetter) (.ref C_BadRank) = some false)
    (kt_BadLetter_NotBits : PySem.W.kitOne K (.ref C_BadLetter) (.ref C_NotBits) = some false)
    (kt_BadLetter_BadIndex : PySem.W.kitOne K (.ref C_BadLetter) (.ref C_BadIndex) = some false)
    (kt_BadLetter_BadStanding : PySem.W.kitOne K (.ref C_BadLetter) (.ref C_BadStanding) = some false)
    (kt_BadLetter_BadRule : PySem.W.kitOne K (.ref C_BadLetter) (.ref C_BadRule) = some false)
    (kt_BadLetter_AlphabetsDiffer : PySem.W.kitOne K (.ref C_BadLetter) (.ref C_AlphabetsDiffer) = some false)
    (kt_BadLetter_DoesNotComeBack : PySem.W.kitOne K (.ref C_BadLetter) (.ref C_DoesNotComeBack) = some false)
    (kt_BadLetter_TooLarge : PySem.W.kitOne K (.ref C_BadLetter) (.ref C_TooLarge) = some false)
    (kt_BadLetter_NotWritten : PySem.W.kitOne K (.ref C_BadLetter) (.ref C_NotWritten) = some false)
    (kt_BadLetter_NoSuchText : PySem.W.kitOne K (.ref C_BadLetter) (.ref C_NoSuchText) = some false)
    (kt_BadLetter_BadName : PySem.W.kitOne K (.ref C_BadLetter) (.ref C_BadName) = some false)
    (kt_BadLetter_NameTaken : PySem.W.kitOne K (.ref C_BadLetter) (.ref C_NameTaken) = some false)
    (kt_BadLetter_NoName : PySem.W.kitOne K (.ref C_BadLetter) (.ref C_NoName) = some false)
    (kt_BadLetter_EmptyRing : PySem.W.kitOne K (.ref C_BadLetter) (.ref C_EmptyRing) = some false)
    (kt_BadLetter_NotInLot : PySem.W.kitOne K (.ref C_BadLetter) (.ref C_NotInLot) = some false)
    (kt_BadLetter_BadBuild : PySem.W.kitOne K (.ref C_BadLetter) (.ref C_BadBuild) = some false)
    (kt_BadLetter_BadGrowth : PySem.W.kitOne K (.ref C_BadLetter) (.ref C_BadGrowth) = some false)
    (kt_BadLetter_EmptyText : PySem.W.kitOne K (.ref C_BadLetter) (.ref C_EmptyText) = some false)
    (kt_BadLetter_NothingToUndo : PySem.W.kitOne K (.ref C_BadLetter) (.ref C_NothingToUndo) = some false)
    (kt_BadLetter_NothingToRedo : PySem.W.kitOne K (.ref C_BadLetter) (.ref C_NothingToRedo) = some false)
    (kt_BadLetter_VE : PySem.W.kitOne K (.ref C_BadLetter) (.type "ValueError") = some true)
    (ex_BadLetter_PressError : PySem.W.exmOne K (.ref C_BadLetter) (.ref C_PressError) = some true)
    (aC_Cut : PySem.W.nsIn K mainGlobals "Cut" = some (some (.ref C_Cut)))
    (pg_Cut : PySem.W.plainGet K C_Cut Str.empty = true) (hd_Cut : PySem.W.hasDictIn K C_Cut = true) (po_Cut : PySem.W.plainOver K C_Cut = true) (sa_Cut : PySem.W.findIn K (.ref C_Cut) "__setattr__" = some (some (.builtin "object.__setattr__"))) (mk_Cut : PySem.W.makesIn K C_Cut = true) (kc_Cut : PySem.W.keepIn K (.ref C_Cut) = true)
    (n_Cut_alphabet : PySem.W.findIn K (.ref C_Cut) "alphabet" = some none)
    (n_Cut_rows : PySem.W.findIn K (.ref C_Cut) "rows" = some none)
    (n_Cut_tail : PySem.W.findIn K (.ref C_Cut) "tail" = some none)
    (n_Cut_pieces : PySem.W.findIn K (.ref C_Cut) "pieces" = some none)
    (n_Cut_many : PySem.W.findIn K (.ref C_Cut) "many" = some none)
    (n_Cut_text : PySem.W.findIn K (.ref C_Cut) "text" = some none)
    (n_Cut_starts : PySem.W.findIn K (.ref C_Cut) "starts" = some none)
    (aC_Round : PySem.W.nsIn K mainGlobals "Round" = some (some (.ref C_Round)))
    (pg_Round : PySem.W.plainGet K C_Round Str.empty = true) (hd_Round : PySem.W.hasDictIn K C_Round = true) (po_Round : PySem.W.plainOver K C_Round = true) (sa_Round : PySem.W.findIn K (.ref C_Round) "__setattr__" = some (some (.builtin "object.__setattr__"))) (mk_Round : PySem.W.makesIn K C_Round = true) (kc_Round : PySem.W.keepIn K (.ref C_Round) = true)
    (n_Round_alphabet : PySem.W.findIn K (.ref C_Round) "alphabet" = some none)
    (n_Round_head : PySem.W.findIn K (.ref C_Round) "head" = some none)
    (n_Round_ring : PySem.W.findIn K (.ref C_Round) "ring" = some none)
    (n_Round_variety : PySem.W.findIn K (.ref C_Round) "variety" = some none)
    (a42 : PySem.W.findIn K (.ref C_Cut) "__init__" = some (some (.ref f42))) (i42 : PySem.W.isFn K (.ref f42) = true)
    (l42 : K.lookup f42 = some ⟨oc42, od42, .func (PySem.W.fnOf "__init__" "Cut.__init__" (defArgs s_Cut___init__) (defBody s_Cut___init__) (defScope s_Cut___init__) .none kV42 dc42 pm42 an42 cd42 ct42), sl42⟩)
    (c42 : PySem.W.codeIn K cd42 "Cut.__init__" = true) (k42 : PySem.W.keepIn K (.ref f42) = true)
    (a43 : PySem.W.findIn K (.ref C_Round) "__init__" = some (some (.ref f43))) (i43 : PySem.W.isFn K (.ref f43) = true)
    (l43 : K.lookup f43 = some ⟨oc43, od43, .func (PySem.W.fnOf "__init__" "Round.__init__" (defArgs s_Round___init__) (defBody s_Round___init__) (defScope s_Round___init__) .none kV43 dc43 pm43 an43 cd43 ct43), sl43⟩)
    (c43 : PySem.W.codeIn K cd43 "Round.__init__" = true) (k43 : PySem.W.keepIn K (.ref f43) = true)
    (a44 : PySem.W.findIn K (.ref C_Round) "beginning" = some (some (.ref f44))) (i44 : PySem.W.isFn K (.ref f44) = true)
    (l44 : K.lookup f44 = some ⟨oc44, od44, .func (PySem.W.fnOf "beginning" "Round.beginning" (defArgs s_Round_beginning) (defBody s_Round_beginning) (defScope s_Round_beginning) .none kV44 dc44 pm44 an44 cd44 ct44), sl44⟩)
    (c44 : PySem.W.codeIn K cd44 "Round.beginning" = true) (k44 : PySem.W.keepIn K (.ref f44) = true)
    (z_ValueError : PySem.W.nsIn K mainGlobals "ValueError" = some none)
    (z_all : PySem.W.nsIn K mainGlobals "all" = some none)
    (z_bool : PySem.W.nsIn K mainGlobals "bool" = some none)
    (z_enumerate : PySem.W.nsIn K mainGlobals "enumerate" = some none)
    (z_int : PySem.W.nsIn K mainGlobals "int" = some none)
    (z_isinstance : PySem.W.nsIn K mainGlobals "isinstance" = some none)
    (z_len : PySem.W.nsIn K mainGlobals "len" = some none)
    (z_list : PySem.W.nsIn K mainGlobals "list" = some none)
    (z_min : PySem.W.nsIn K mainGlobals "min" = some none)
    (z_range : PySem.W.nsIn K mainGlobals "range" = some none)
    (z_repr : PySem.W.nsIn K mainGlobals "repr" = some none)
    (z_sorted : PySem.W.nsIn K mainGlobals "sorted" = some none)
    (z_str : PySem.W.nsIn K mainGlobals "str" = some none)
    (z_sum : PySem.W.nsIn K mainGlobals "sum" = some none)
    (z_tuple : PySem.W.nsIn K mainGlobals "tuple" = some none)
    (z_zip : PySem.W.nsIn K mainGlobals "zip" = some none)
    (g_LETTERS : PySem.W.nsIn K mainGlobals "LETTERS" = some (some (.str (Str.ofString "0123456789abcdefghijklmnopqrstuvwxyz") t_LETTERS)))
    (g_MOST_LETTERS : PySem.W.nsIn K mainGlobals "MOST_LETTERS" = some (some (.int 6 t_MOST_LETTERS)))
    : ∃ fd : FuncData, (∀ (s : Shared) (v : Value), BindsTo s fd ⟨[v], []⟩ [("script", v)]) ∧ ∀ base : Heap, K.In base → base.Ns mainGlobals mg → FnG l.prog w K mg base CX0 11 fa fd ["script"] (spLaw K) := by
  have e := hfa.symm.trans (PySem.W.mg_of X G a41)
  cases e
  have T : Top K mg C_Cut C_Round := { z_ValueError := PySem.W.mg_none_of X G z_ValueError, z_all := PySem.W.mg_none_of X G z_all, z_bool := PySem.W.mg_none_of X G z_bool, z_enumerate := PySem.W.mg_none_of X G z_enumerate, z_int := PySem.W.mg_none_of X G z_int, z_isinstance := PySem.W.mg_none_of X G z_isinstance, z_len := PySem.W.mg_none_of X G z_len, z_list := PySem.W.mg_none_of X G z_list, z_min := PySem.W.mg_none_of X G z_min, z_range := PySem.W.mg_none_of X G z_range, z_repr := PySem.W.mg_none_of X G z_repr, z_sorted := PySem.W.mg_none_of X G z_sorted, z_str := PySem.W.mg_none_of X G z_str, z_sum := PySem.W.mg_none_of X G z_sum, z_tuple := PySem.W.mg_none_of X G z_tuple, z_zip := PySem.W.mg_none_of X G z_zip, c_Cut := PySem.W.mg_of X G aC_Cut, cl_Cut := ⟨pg_Cut, hd_Cut, po_Cut, sa_Cut⟩, n_Cut_alphabet := n_Cut_alphabet, n_Cut_rows := n_Cut_rows, n_Cut_tail := n_Cut_tail, n_Cut_pieces := n_Cut_pieces, n_Cut_many := n_Cut_many, n_Cut_text := n_Cut_text, n_Cut_starts := n_Cut_starts, c_Round := PySem.W.mg_of X G aC_Round, cl_Round := ⟨pg_Round, hd_Round, po_Round, sa_Round⟩, n_Round_alphabet := n_Round_alphabet, n_Round_head := n_Round_head, n_Round_ring := n_Round_ring, n_Round_variety := n_Round_variety, g_LETTERS := ⟨t_LETTERS, PySem.W.mg_of X G g_LETTERS⟩, g_MOST_LETTERS := ⟨t_MOST_LETTERS, PySem.W.mg_of X G g_MOST_LETTERS⟩ }
  have TE : ETop K mg C_PressError C_BadAlphabet C_BadLetter C_BadRow C_BadTail C_BadRank C_NotBits C_BadIndex C_BadStanding C_BadRule C_AlphabetsDiffer C_DoesNotComeBack C_TooLarge C_NotWritten C_NoSuchText C_BadName C_NameTaken C_NoName C_EmptyRing C_NotInLot C_BadBuild C_BadGrowth C_EmptyText C_NothingToUndo C_NothingToRedo := { c_PressError := PySem.W.mg_of X G aE_PressError, c_BadAlphabet := PySem.W.mg_of X G aE_BadAlphabet, c_BadLetter := PySem.W.mg_of X G aE_BadLetter, c_BadRow := PySem.W.mg_of X G aE_BadRow, c_BadTail := PySem.W.mg_of X G aE_BadTail, c_BadRank := PySem.W.mg_of X G aE_BadRank, c_NotBits := PySem.W.mg_of X G aE_NotBits, c_BadIndex := PySem.W.mg_of X G aE_BadIndex, c_BadStanding := PySem.W.mg_of X G aE_BadStanding, c_BadRule := PySem.W.mg_of X G aE_BadRule, c_AlphabetsDiffer := PySem.W.mg_of X G aE_AlphabetsDiffer, c_DoesNotComeBack := PySem.W.mg_of X G aE_DoesNotComeBack, c_TooLarge := PySem.W.mg_of X G aE_TooLarge, c_NotWritten := PySem.W.mg_of X G aE_NotWritten, c_NoSuchText := PySem.W.mg_of X G aE_NoSuchText, c_BadName := PySem.W.mg_of X G aE_BadName, c_NameTaken := PySem.W.mg_of X G aE_NameTaken, c_NoName := PySem.W.mg_of X G aE_NoName, c_EmptyRing := PySem.W.mg_of X G aE_EmptyRing, c_NotInLot := PySem.W.mg_of X G aE_NotInLot, c_BadBuild := PySem.W.mg_of X G aE_BadBuild, c_BadGrowth := PySem.W.mg_of X G aE_BadGrowth, c_EmptyText := PySem.W.mg_of X G aE_EmptyText, c_NothingToUndo := PySem.W.mg_of X G aE_NothingToUndo, c_NothingToRedo := PySem.W.mg_of X G aE_NothingToRedo, nf_BadAlphabet_alphabet := nfE_BadAlphabet_alphabet, kt_BadAlphabet_PressError := kt_BadAlphabet_PressError, kt_BadAlphabet_BadAlphabet := kt_BadAlphabet_BadAlphabet, kt_BadAlphabet_BadLetter := kt_BadAlphabet_BadLetter, kt_BadAlphabet_BadRow := kt_BadAlphabet_BadRow, kt_BadAlphabet_BadTail := kt_BadAlphabet_BadTail, kt_BadAlphabet_BadRank := kt_BadAlphabet_BadRank, kt_BadAlphabet_NotBits := kt_BadAlphabet_NotBits, kt_BadAlphabet_BadIndex := kt_BadAlphabet_BadIndex, kt_BadAlphabet_BadStanding := kt_BadAlphabet_BadStanding, kt_BadAlphabet_BadRule := kt_BadAlphabet_BadRule, kt_BadAlphabet_AlphabetsDiffer := kt_BadAlphabet_AlphabetsDiffer, kt_BadAlphabet_DoesNotComeBack := kt_BadAlphabet_DoesNotComeBack, kt_BadAlphabet_TooLarge := kt_BadAlphabet_TooLarge, kt_BadAlphabet_NotWritten := kt_BadAlphabet_NotWritten, kt_BadAlphabet_NoSuchText := kt_BadAlphabet_NoSuchText, kt_BadAlphabet_BadName := kt_BadAlphabet_BadName, kt_BadAlphabet_NameTaken := kt_BadAlphabet_NameTaken, kt_BadAlphabet_NoName := kt_BadAlphabet_NoName, kt_BadAlphabet_EmptyRing := kt_BadAlphabet_EmptyRing, kt_BadAlphabet_NotInLot := kt_BadAlphabet_NotInLot, kt_BadAlphabet_BadBuild := kt_BadAlphabet_BadBuild, kt_BadAlphabet_BadGrowth := kt_BadAlphabet_BadGrowth, kt_BadAlphabet_EmptyText := kt_BadAlphabet_EmptyText, kt_BadAlphabet_NothingToUndo := kt_BadAlphabet_NothingToUndo, kt_BadAlphabet_NothingToRedo := kt_BadAlphabet_NothingToRedo, kt_BadAlphabet_VE := kt_BadAlphabet_VE, ex_BadAlphabet_PressError := ex_BadAlphabet_PressError, nf_BadLetter_index := nfE_BadLetter_index, kt_BadLetter_PressError := kt_BadLetter_PressError, kt_BadLetter_BadAlphabet := kt_BadLetter_BadAlphabet, kt_BadLetter_BadLetter := kt_BadLetter_BadLetter, kt_BadLetter_BadRow := kt_BadLetter_BadRow, kt_BadLetter_BadTail := kt_BadLetter_BadTail, kt_BadLetter_BadRank := kt_BadLetter_BadRank, kt_BadLetter_NotBits := kt_BadLetter_NotBits, kt_BadLetter_BadIndex := kt_BadLetter_BadIndex, kt_BadLetter_BadStanding := kt_BadLetter_BadStanding, kt_BadLetter_BadRule := kt_BadLetter_BadRule, kt_BadLetter_AlphabetsDiffer := kt_BadLetter_AlphabetsDiffer, kt_BadLetter_DoesNotComeBack := kt_BadLetter_DoesNotComeBack, kt_BadLetter_TooLarge := kt_BadLetter_TooLarge, kt_BadLetter_NotWritten := kt_BadLetter_NotWritten, kt_BadLetter_NoSuchText := kt_BadLetter_NoSuchText, kt_BadLetter_BadName := kt_BadLetter_BadName, kt_BadLetter_NameTaken := kt_BadLetter_NameTaken, kt_BadLetter_NoName := kt_BadLetter_NoName, kt_BadLetter_EmptyRing := kt_BadLetter_EmptyRing, kt_BadLetter_NotInLot := kt_BadLetter_NotInLot, kt_BadLetter_BadBuild := kt_BadLetter_BadBuild, kt_BadLetter_BadGrowth := kt_BadLetter_BadGrowth, kt_BadLetter_EmptyText := kt_BadLetter_EmptyText, kt_BadLetter_NothingToUndo := kt_BadLetter_NothingToUndo, kt_BadLetter_NothingToRedo := kt_BadLetter_NothingToRedo, kt_BadLetter_VE := kt_BadLetter_VE, ex_BadLetter_PressError := ex_BadLetter_PressError }
  have xc_BadAlphabet : ExcC K C_BadAlphabet := ⟨gaE_BadAlphabet, ggE_BadAlphabet, sbE_BadAlphabet, hdE_BadAlphabet, caE_BadAlphabet, hn_get, ht_get, mrE_BadAlphabet⟩
  have oe_BadAlphabet : OexC K C_BadAlphabet := ⟨⟨_, _, _, _, _, _, _, _, _, _, _, _, _, _, _, xL_BadAlphabet, hb_BadAlphabet⟩, saE_BadAlphabet, sbE_BadAlphabet, ty_BadAlphabet, kcE_BadAlphabet⟩
  have FI_BadAlphabet := fun_mk (st := s_BadAlphabet___init__) lE_BadAlphabet ccE_BadAlphabet kpE_BadAlphabet
  have GE_BadAlphabet : ∀ base : Heap, Er_BadAlphabet l.prog w K mg base C_BadAlphabet := fun base => ⟨oe_BadAlphabet, PySem.W.mg_of X G aE_BadAlphabet, ⟨gaE_BadAlphabet, ggE_BadAlphabet, sbE_BadAlphabet, hdE_BadAlphabet⟩, xc_BadAlphabet, fi_BadAlphabet, _, iE_BadAlphabet, tiE_BadAlphabet, he_BadAlphabet FI_BadAlphabet oe_BadAlphabet nfE_BadAlphabet_alphabet, FI_BadAlphabet.binds fun _ _ _ _ _ _ us hl => match us, hl with | [_, _], _ => rfl⟩
  have xc_BadLetter : ExcC K C_BadLetter := ⟨gaE_BadLetter, ggE_BadLetter, sbE_BadLetter, hdE_BadLetter, caE_BadLetter, hn_get, ht_get, mrE_BadLetter⟩
  have oe_BadLetter : OexC K C_BadLetter := ⟨⟨_, _, _, _, _, _, _, _, _, _, _, _, _, _, _, xL_BadLetter, hb_BadLetter⟩, saE_BadLetter, sbE_BadLetter, ty_BadLetter, kcE_BadLetter⟩
  have FI_BadLetter := fun_mk (st := s_BadLetter___init__) lE_BadLetter ccE_BadLetter kpE_BadLetter
  have GE_BadLetter : ∀ base : Heap, Er_BadLetter l.prog w K mg base C_BadLetter := fun base => ⟨oe_BadLetter, PySem.W.mg_of X G aE_BadLetter, ⟨gaE_BadLetter, ggE_BadLetter, sbE_BadLetter, hdE_BadLetter⟩, xc_BadLetter, fi_BadLetter, _, iE_BadLetter, tiE_BadLetter, he_BadLetter FI_BadLetter oe_BadLetter nfE_BadLetter_index, FI_BadLetter.binds fun _ _ _ _ _ _ us hl => match us, hl with | [_, _], _ => rfl⟩
  have A_is_alphabet := at_mk (st := s_is_alphabet) X G a0 l0 c0 k0
  have A_is_letter := at_mk (st := s_is_letter) X G a1 l1 c1 k1
  have A_check_alphabet := at_mk (st := s_check_alphabet) X G a2 l2 c2 k2
  have A_check_text := at_mk (st := s_check_text) X G a3 l3 c3 k3
  have A_is_whole := at_mk (st := s_is_whole) X G a4 l4 c4 k4
  have A_is_number_below := at_mk (st := s_is_number_below) X G a5 l5 c5 k5
  have A_as_tuples := at_mk (st := s_as_tuples) X G a6 l6 c6 k6
  have A_check_rows := at_mk (st := s_check_rows) X G a7 l7 c7 k7
  have A_pieces_of := at_mk (st := s_pieces_of) X G a8 l8 c8 k8
  have A_starts_of := at_mk (st := s_starts_of) X G a9 l9 c9 k9
  have A_cut_of := at_mk (st := s_cut_of) X G a10 l10 c10 k10
  have A_width := at_mk (st := s_width) X G a11 l11 c11 k11
  have A_number_bits := at_mk (st := s_number_bits) X G a12 l12 c12 k12
  have A_free_places := at_mk (st := s_free_places) X G a13 l13 c13 k13
  have A_count_below := at_mk (st := s_count_below) X G a14 l14 c14 k14
  have A_place_numbers := at_mk (st := s_place_numbers) X G a15 l15 c15 k15
  have A_press := at_mk (st := s_press) X G a16 l16 c16 k16
  have A_turned_letters := at_mk (st := s_turned_letters) X G a17 l17 c17 k17
  have A__law_whole := at_mk (st := s__law_whole) X G a18 l18 c18 k18
  have A__law_cell := at_mk (st := s__law_cell) X G a19 l19 c19 k19
  have A__law_digits := at_mk (st := s__law_digits) X G a20 l20 c20 k20
  have A__law_signs := at_mk (st := s__law_signs) X G a21 l21 c21 k21
  have A__law_free_word := at_mk (st := s__law_free_word) X G a22 l22 c22 k22
  have A__law_counting_word := at_mk (st := s__law_counting_word) X G a23 l23 c23 k23
  have A__law_word := at_mk (st := s__law_word) X G a24 l24 c24 k24
  have A__law_long_word := at_mk (st := s__law_long_word) X G a25 l25 c25 k25
  have A__law_cut := at_mk (st := s__law_cut) X G a26 l26 c26 k26
  have A__law_width := at_mk (st := s__law_width) X G a27 l27 c27 k27
  have A__law_number := at_mk (st := s__law_number) X G a28 l28 c28 k28
  have A__law_numbers := at_mk (st := s__law_numbers) X G a29 l29 c29 k29
  have A__law_many_numbers := at_mk (st := s__law_many_numbers) X G a30 l30 c30 k30
  have A__law_wider := at_mk (st := s__law_wider) X G a31 l31 c31 k31
  have A__law_spoilt := at_mk (st := s__law_spoilt) X G a32 l32 c32 k32
  have A__law_no_signs := at_mk (st := s__law_no_signs) X G a33 l33 c33 k33
  have A__law_first_strange := at_mk (st := s__law_first_strange) X G a34 l34 c34 k34
  have A__law_kin := at_mk (st := s__law_kin) X G a35 l35 c35 k35
  have A__law_answer := at_mk (st := s__law_answer) X G a36 l36 c36 k36
  have A__law_judged := at_mk (st := s__law_judged) X G a37 l37 c37 k37
  have A__law_refused := at_mk (st := s__law_refused) X G a38 l38 c38 k38
  have A__law_cut_pressed := at_mk (st := s__law_cut_pressed) X G a39 l39 c39 k39
  have A__law_beginning_pressed := at_mk (st := s__law_beginning_pressed) X G a40 l40 c40 k40
  have A_Cut___init__ : AtI K C_Cut "Cut.__init__" s_Cut___init__ := ⟨⟨f42, _, fun_mk l42 c42 k42, ⟨mk_Cut, a42, i42, kc_Cut⟩⟩⟩
  have A_Round___init__ : AtI K C_Round "Round.__init__" s_Round___init__ := ⟨⟨f43, _, fun_mk l43 c43 k43, ⟨mk_Round, a43, i43, kc_Round⟩⟩⟩
  have A_Round_beginning : AtM K C_Round "beginning" "Round.beginning" s_Round_beginning := ⟨⟨f44, _, fun_mk l44 c44 k44, ⟨a44, i44, k44⟩⟩⟩
  refine ⟨PySem.W.fnOf "law" "law" (defArgs s_law) (defBody s_law) (defScope s_law) .none kV41 dc41 pm41 an41 cd41 ct41, fun s v => .of_eq rfl, fun base _ _ => ?_⟩
  have h_isal := has_isal (P := l.prog) (w := w) (base := base) A_is_alphabet T
  have h_isalB := has_isalB (P := l.prog) (w := w) (base := base) A_is_alphabet T
  have h_let := has_let (P := l.prog) (w := w) (base := base) A_is_letter T
  have h_whole := has_whole (P := l.prog) (w := w) (base := base) A_is_whole T
  have h_below := has_below A_is_number_below T h_whole
  have h_ckal := has_ckal A_check_alphabet T h_isal
  have h_cktx := has_cktx (P := l.prog) (w := w) (base := base) A_check_text T
  have h_ckalB := has_ckalB A_check_alphabet T (GE_BadAlphabet base) h_isalB
  have h_cktxB := has_cktxB A_check_text T (GE_BadLetter base)
  have h_ckal2 := has_both h_ckal h_ckalB (by decide)
  have h_cktx2 := has_both h_cktx h_cktxB (by decide)
  have h_as := has_as (P := l.prog) (w := w) (base := base) A_as_tuples T
  have h_ckr := has_ckr A_check_rows T h_let h_below
  have h_pcs := has_pcs (P := l.prog) (w := w) (base := base) A_pieces_of T
  have h_sts := has_sts (P := l.prog) (w := w) (base := base) A_starts_of T
  have h_init := has_init A_Cut___init__ T h_ckal h_as h_ckr h_below h_pcs h_sts
  have h_cut := has_cut A_cut_of T h_ckal h_cktx h_init
  have h_cutB := has_cutB A_cut_of T h_ckal2 h_cktx2 h_init
  have h_cut2 := has_both h_cut h_cutB (by decide)
  have h_width := has_width (P := l.prog) (w := w) (base := base) A_width
  have h_nb := has_nb A_number_bits T h_width
  have h_free := has_free (P := l.prog) (w := w) (base := base) A_free_places
  have h_bel := has_bel (P := l.prog) (w := w) (base := base) A_count_below T
  have h_pl := has_pl A_place_numbers T h_bel
  have h_press := has_press A_press T h_cut h_pl h_nb h_free
  have h_pressB := has_pressB A_press T h_cut2 h_pl h_nb h_free
  have h_press2 := has_both h_press h_pressB (by decide)
  have h_tur := has_tur (P := l.prog) (w := w) (base := base) A_turned_letters T
  have h_rnd := has_rnd A_Round___init__ T h_ckal h_cktx h_tur
  have h_beg := has_beg (P := l.prog) (w := w) (mg := mg) (base := base) A_Round_beginning T
  have h_cell := has_cell (P := l.prog) (w := w) (base := base) A__law_cell T
  have h_digits := has_digits (P := l.prog) (w := w) (base := base) A__law_digits T
  have h_signs := has_signs (P := l.prog) (w := w) (base := base) A__law_signs T
  have h_fw := has_fw (P := l.prog) (w := w) (base := base) A__law_free_word T
  have h_cw := has_cw (P := l.prog) (w := w) (base := base) A__law_counting_word T
  have h_wd := has_wd A__law_word T h_fw h_cw
  have h_long := has_long A__law_long_word T h_fw h_cw h_digits h_cell
  have h_lc := has_lc (P := l.prog) (w := w) (base := base) A__law_cut T
  have h_lw := has_lw4 (P := l.prog) (w := w) (base := base) A__law_width T
  have h_ln := has_ln A__law_number T h_lw
  have h_wi := has_wi (P := l.prog) (w := w) (base := base) A__law_wider T
  have h_fs := has_fs (P := l.prog) (w := w) (base := base) A__law_first_strange T
  have h_spo := has_spo (P := l.prog) (w := w) (base := base) A__law_spoilt T
  have h_nos := has_nos (P := l.prog) (w := w) (base := base) A__law_no_signs T
  have h_ns := has_ns A__law_numbers T h_lc h_ln
  have h_mn := has_mn A__law_many_numbers T h_lc h_ln
  have hp_whole := hp_lwhole (P := l.prog) (w := w) (base := base) A__law_whole T
  have hp_kn := hp_kin (P := l.prog) (w := w) (base := base) A__law_kin T TE xc_BadAlphabet xc_BadLetter
  have h_ans := has_ans A__law_answer T TE (GE_BadAlphabet base) (GE_BadLetter base) h_press2 hp_kn hp_whole
  have h_jud := has_jud A__law_judged T h_fs h_ans h_ns
  have h_rfd := has_rfd A__law_refused T h_ans
  have h_cp := has_cp A__law_cut_pressed T h_lc h_init h_press
  have h_bp := has_bp A__law_beginning_pressed T h_digits h_cell h_fw h_rnd h_beg h_press h_mn
  exact ok_law (fun_mk (st := s_law) l41 c41 k41) T h_signs h_digits h_cell h_wd h_long h_wi h_spo h_nos h_ns h_press h_jud h_rfd h_cp h_bp
def q_a0 : Fc := fun K => He.eqO (PySem.W.nsIn K mainGlobals "is_alphabet") (some (some (.ref (He.fAd K ("is_alphabet", none)))))
def q_k0 : Fc := fun K => PySem.W.keepIn K (.ref (He.fAd K ("is_alphabet", none)))
def q_a1 : Fc := fun K => He.eqO (PySem.W.nsIn K mainGlobals "is_letter") (some (some (.ref (He.fAd K ("is_letter", none)))))
def q_k1 : Fc := fun K => PySem.W.keepIn K (.ref (He.fAd K ("is_letter", none)))
def q_a2 : Fc := fun K => He.eqO (PySem.W.nsIn K mainGlobals "check_alphabet") (some (some (.ref (He.fAd K ("check_alphabet", none)))))
def q_k2 : Fc := fun K => PySem.W.keepIn K (.ref (He.fAd K ("check_alphabet", none)))
def q_a3 : Fc := fun K => He.eqO (PySem.W.nsIn K mainGlobals "check_text") (some (some (.ref (He.fAd K ("check_text", none)))))
def q_k3 : Fc := fun K => PySem.W.keepIn K (.ref (He.fAd K ("check_text", none)))
def q_a4 : Fc := fun K => He.eqO (PySem.W.nsIn K mainGlobals "is_whole") (some (some (.ref (He.fAd K ("is_whole", none)))))
def q_k4 : Fc := fun K => PySem.W.keepIn K (.ref (He.fAd K ("is_whole", none)))
def q_a5 : Fc := fun K => He.eqO (PySem.W.nsIn K mainGlobals "is_number_below") (some (some (.ref (He.fAd K ("is_number_below", none)))))
def q_k5 : Fc := fun K => PySem.W.keepIn K (.ref (He.fAd K ("is_number_below", none)))
def q_a6 : Fc := fun K => He.eqO (PySem.W.nsIn K mainGlobals "as_tuples") (some (some (.ref (He.fAd K ("as_tuples", none)))))
def q_k6 : Fc := fun K => PySem.W.keepIn K (.ref (He.fAd K ("as_tuples", none)))
def q_a7 : Fc := fun K => He.eqO (PySem.W.nsIn K mainGlobals "check_rows") (some (some (.ref (He.fAd K ("check_rows", none)))))
def q_k7 : Fc := fun K => PySem.W.keepIn K (.ref (He.fAd K ("check_rows", none)))
def q_a8 : Fc := fun K => He.eqO (PySem.W.nsIn K mainGlobals "pieces_of") (some (some (.ref (He.fAd K ("pieces_of", none)))))
def q_k8 : Fc := fun K => PySem.W.keepIn K (.ref (He.fAd K ("pieces_of", none)))
def q_a9 : Fc := fun K => He.eqO (PySem.W.nsIn K mainGlobals "starts_of") (some (some (.ref (He.fAd K ("starts_of", none)))))
def q_k9 : Fc := fun K => PySem.W.keepIn K (.ref (He.fAd K ("starts_of", none)))
def q_a10 : Fc := fun K => He.eqO (PySem.W.nsIn K mainGlobals "cut_of") (some (some (.ref (He.fAd K ("cut_of", none)))))
def q_k10 : Fc := fun K => PySem.W.keepIn K (.ref (He.fAd K ("cut_of", none)))
def q_a11 : Fc := fun K => He.eqO (PySem.W.nsIn K mainGlobals "width") (some (some (.ref (He.fAd K ("width", none)))))
def q_k11 : Fc := fun K => PySem.W.keepIn K (.ref (He.fAd K ("width", none)))
def q_a12 : Fc := fun K => He.eqO (PySem.W.nsIn K mainGlobals "number_bits") (some (some (.ref (He.fAd K ("number_bits", none)))))
def q_k12 : Fc := fun K => PySem.W.keepIn K (.ref (He.fAd K ("number_bits", none)))
def q_a13 : Fc := fun K => He.eqO (PySem.W.nsIn K mainGlobals "free_places") (some (some (.ref (He.fAd K ("free_places", none)))))
def q_k13 : Fc := fun K => PySem.W.keepIn K (.ref (He.fAd K ("free_places", none)))
def q_a14 : Fc := fun K => He.eqO (PySem.W.nsIn K mainGlobals "count_below") (some (some (.ref (He.fAd K ("count_below", none)))))
def q_k14 : Fc := fun K => PySem.W.keepIn K (.ref (He.fAd K ("count_below", none)))
def q_a15 : Fc := fun K => He.eqO (PySem.W.nsIn K mainGlobals "place_numbers") (some (some (.ref (He.fAd K ("place_numbers", none)))))
def q_k15 : Fc := fun K => PySem.W.keepIn K (.ref (He.fAd K ("place_numbers", none)))
def q_a16 : Fc := fun K => He.eqO (PySem.W.nsIn K mainGlobals "press") (some (some (.ref (He.fAd K ("press", none)))))
def q_k16 : Fc := fun K => PySem.W.keepIn K (.ref (He.fAd K ("press", none)))
def q_a17 : Fc := fun K => He.eqO (PySem.W.nsIn K mainGlobals "turned_letters") (some (some (.ref (He.fAd K ("turned_letters", none)))))
def q_k17 : Fc := fun K => PySem.W.keepIn K (.ref (He.fAd K ("turned_letters", none)))
def q_a18 : Fc := fun K => He.eqO (PySem.W.nsIn K mainGlobals "_law_whole") (some (some (.ref (He.fAd K ("_law_whole", none)))))
def q_k18 : Fc := fun K => PySem.W.keepIn K (.ref (He.fAd K ("_law_whole", none)))
def q_a19 : Fc := fun K => He.eqO (PySem.W.nsIn K mainGlobals "_law_cell") (some (some (.ref (He.fAd K ("_law_cell", none)))))
def q_k19 : Fc := fun K => PySem.W.keepIn K (.ref (He.fAd K ("_law_cell", none)))
def q_a20 : Fc := fun K => He.eqO (PySem.W.nsIn K mainGlobals "_law_digits") (some (some (.ref (He.fAd K ("_law_digits", none)))))
def q_k20 : Fc := fun K => PySem.W.keepIn K (.ref (He.fAd K ("_law_digits", none)))
def q_a21 : Fc := fun K => He.eqO (PySem.W.nsIn K mainGlobals "_law_signs") (some (some (.ref (He.fAd K ("_law_signs", none)))))
def q_k21 : Fc := fun K => PySem.W.keepIn K (.ref (He.fAd K ("_law_signs", none)))
def q_a22 : Fc := fun K => He.eqO (PySem.W.nsIn K mainGlobals "_law_free_word") (some (some (.ref (He.fAd K ("_law_free_word", none)))))
def q_k22 : Fc := fun K => PySem.W.keepIn K (.ref (He.fAd K ("_law_free_word", none)))
def q_a23 : Fc := fun K => He.eqO (PySem.W.nsIn K mainGlobals "_law_counting_word") (some (some (.ref (He.fAd K ("_law_counting_word", none)))))
def q_k23 : Fc := fun K => PySem.W.keepIn K (.ref (He.fAd K ("_law_counting_word", none)))
def q_a24 : Fc := fun K => He.eqO (PySem.W.nsIn K mainGlobals "_law_word") (some (some (.ref (He.fAd K ("_law_word", none)))))
def q_k24 : Fc := fun K => PySem.W.keepIn K (.ref (He.fAd K ("_law_word", none)))
def q_a25 : Fc := fun K => He.eqO (PySem.W.nsIn K mainGlobals "_law_long_word") (some (some (.ref (He.fAd K ("_law_long_word", none)))))
def q_k25 : Fc := fun K => PySem.W.keepIn K (.ref (He.fAd K ("_law_long_word", none)))
def q_a26 : Fc := fun K => He.eqO (PySem.W.nsIn K mainGlobals "_law_cut") (some (some (.ref (He.fAd K ("_law_cut", none)))))
def q_k26 : Fc := fun K => PySem.W.keepIn K (.ref (He.fAd K ("_law_cut", none)))
def q_a27 : Fc := fun K => He.eqO (PySem.W.nsIn K mainGlobals "_law_width") (some (some (.ref (He.fAd K ("_law_width", none)))))
def q_k27 : Fc := fun K => PySem.W.keepIn K (.ref (He.fAd K ("_law_width", none)))
def q_a28 : Fc := fun K => He.eqO (PySem.W.nsIn K mainGlobals "_law_number") (some (some (.ref (He.fAd K ("_law_number", none)))))
def q_k28 : Fc := fun K => PySem.W.keepIn K (.ref (He.fAd K ("_law_number", none)))
def q_a29 : Fc := fun K => He.eqO (PySem.W.nsIn K mainGlobals "_law_numbers") (some (some (.ref (He.fAd K ("_law_numbers", none)))))
def q_k29 : Fc := fun K => PySem.W.keepIn K (.ref (He.fAd K ("_law_numbers", none)))
def q_a30 : Fc := fun K => He.eqO (PySem.W.nsIn K mainGlobals "_law_many_numbers") (some (some (.ref (He.fAd K ("_law_many_numbers", none)))))
def q_k30 : Fc := fun K => PySem.W.keepIn K (.ref (He.fAd K ("_law_many_numbers", none)))
def qs_0 : List Fc := [q_a0, q_k0, q_a1, q_k1, q_a2, q_k2, q_a3, q_k3, q_a4, q_k4, q_a5, q_k5, q_a6, q_k6, q_a7, q_k7, q_a8, q_k8, q_a9, q_k9, q_a10, q_k10, q_a11, q_k11, q_a12, q_k12, q_a13, q_k13, q_a14, q_k14, q_a15, q_k15, q_a16, q_k16, q_a17, q_k17, q_a18, q_k18, q_a19, q_k19, q_a20, q_k20, q_a21, q_k21, q_a22, q_k22, q_a23, q_k23, q_a24, q_k24, q_a25, q_k25, q_a26, q_k26, q_a27, q_k27, q_a28, q_k28, q_a29, q_k29, q_a30, q_k30]
def q_a31 : Fc := fun K => He.eqO (PySem.W.nsIn K mainGlobals "_law_wider") (some (some (.ref (He.fAd K ("_law_wider", none)))))
def q_k31 : Fc := fun K => PySem.W.keepIn K (.ref (He.fAd K ("_law_wider", none)))
def q_a32 : Fc := fun K => He.eqO (PySem.W.nsIn K mainGlobals "_law_spoilt") (some (some (.ref (He.fAd K ("_law_spoilt", none)))))
def q_k32 : Fc := fun K => PySem.W.keepIn K (.ref (He.fAd K ("_law_spoilt", none)))
def q_a33 : Fc := fun K => He.eqO (PySem.W.nsIn K mainGlobals "_law_no_signs") (some (some (.ref (He.fAd K ("_law_no_signs", none)))))
def q_k33 : Fc := fun K => PySem.W.keepIn K (.ref (He.fAd K ("_law_no_signs", none)))
def q_a34 : Fc := fun K => He.eqO (PySem.W.nsIn K mainGlobals "_law_first_strange") (some (some (.ref (He.fAd K ("_law_first_strange", none)))))
def q_k34 : Fc := fun K => PySem.W.keepIn K (.ref (He.fAd K ("_law_first_strange", none)))
def q_a35 : Fc := fun K => He.eqO (PySem.W.nsIn K mainGlobals "_law_kin") (some (some (.ref (He.fAd K ("_law_kin", none)))))
def q_k35 : Fc := fun K => PySem.W.keepIn K (.ref (He.fAd K ("_law_kin", none)))
def q_a36 : Fc := fun K => He.eqO (PySem.W.nsIn K mainGlobals "_law_answer") (some (some (.ref (He.fAd K ("_law_answer", none)))))
def q_k36 : Fc := fun K => PySem.W.keepIn K (.ref (He.fAd K ("_law_answer", none)))
def q_a37 : Fc := fun K => He.eqO (PySem.W.nsIn K mainGlobals "_law_judged") (some (some (.ref (He.fAd K ("_law_judged", none)))))
def q_k37 : Fc := fun K => PySem.W.keepIn K (.ref (He.fAd K ("_law_judged", none)))
def q_a38 : Fc := fun K => He.eqO (PySem.W.nsIn K mainGlobals "_law_refused") (some (some (.ref (He.fAd K ("_law_refused", none)))))
def q_k38 : Fc := fun K => PySem.W.keepIn K (.ref (He.fAd K ("_law_refused", none)))
def q_a39 : Fc := fun K => He.eqO (PySem.W.nsIn K mainGlobals "_law_cut_pressed") (some (some (.ref (He.fAd K ("_law_cut_pressed", none)))))
def q_k39 : Fc := fun K => PySem.W.keepIn K (.ref (He.fAd K ("_law_cut_pressed", none)))
def q_a40 : Fc := fun K => He.eqO (PySem.W.nsIn K mainGlobals "_law_beginning_pressed") (some (some (.ref (He.fAd K ("_law_beginning_pressed", none)))))
def q_k40 : Fc := fun K => PySem.W.keepIn K (.ref (He.fAd K ("_law_beginning_pressed", none)))
def q_a41 : Fc := fun K => He.eqO (PySem.W.nsIn K mainGlobals "law") (some (some (.ref (He.fAd K ("law", none)))))
def q_k41 : Fc := fun K => PySem.W.keepIn K (.ref (He.fAd K ("law", none)))
def q_hn_get : Fc := fun K => He.eqO (PySem.W.specialIn K (.builtin "object.__class__") "__get__") (some (some (.builtin "getset_descriptor.__get__")))
def q_ht_get : Fc := fun K => obB (PySem.W.takesIn K (.builtin "object.__class__")) true
def q_aE_PressError : Fc := fun K => He.eqO (PySem.W.nsIn K mainGlobals "PressError") (some (some (.ref (He.ga K "PressError"))))
def q_aE_BadAlphabet : Fc := fun K => He.eqO (PySem.W.nsIn K mainGlobals "BadAlphabet") (some (some (.ref (He.ga K "BadAlphabet"))))
def q_aE_BadLetter : Fc := fun K => He.eqO (PySem.W.nsIn K mainGlobals "BadLetter") (some (some (.ref (He.ga K "BadLetter"))))
def q_aE_BadRow : Fc := fun K => He.eqO (PySem.W.nsIn K mainGlobals "BadRow") (some (some (.ref (He.ga K "BadRow"))))
def q_aE_BadTail : Fc := fun K => He.eqO (PySem.W.nsIn K mainGlobals "BadTail") (some (some (.ref (He.ga K "BadTail"))))
def q_aE_BadRank : Fc := fun K => He.eqO (PySem.W.nsIn K mainGlobals "BadRank") (some (some (.ref (He.ga K "BadRank"))))
def q_aE_NotBits : Fc := fun K => He.eqO (PySem.W.nsIn K mainGlobals "NotBits") (some (some (.ref (He.ga K "NotBits"))))
def q_aE_BadIndex : Fc := fun K => He.eqO (PySem.W.nsIn K mainGlobals "BadIndex") (some (some (.ref (He.ga K "BadIndex"))))
def q_aE_BadStanding : Fc := fun K => He.eqO (PySem.W.nsIn K mainGlobals "BadStanding") (some (some (.ref (He.ga K "BadStanding"))))
def q_aE_BadRule : Fc := fun K => He.eqO (PySem.W.nsIn K mainGlobals "BadRule") (some (some (.ref (He.ga K "BadRule"))))
def q_aE_AlphabetsDiffer : Fc := fun K => He.eqO (PySem.W.nsIn K mainGlobals "AlphabetsDiffer") (some (some (.ref (He.ga K "AlphabetsDiffer"))))
def q_aE_DoesNotComeBack : Fc := fun K => He.eqO (PySem.W.nsIn K mainGlobals "DoesNotComeBack") (some (some (.ref (He.ga K "DoesNotComeBack"))))
def q_aE_TooLarge : Fc := fun K => He.eqO (PySem.W.nsIn K mainGlobals "TooLarge") (some (some (.ref (He.ga K "TooLarge"))))
def q_aE_NotWritten : Fc := fun K => He.eqO (PySem.W.nsIn K mainGlobals "NotWritten") (some (some (.ref (He.ga K "NotWritten"))))
def q_aE_NoSuchText : Fc := fun K => He.eqO (PySem.W.nsIn K mainGlobals "NoSuchText") (some (some (.ref (He.ga K "NoSuchText"))))
def q_aE_BadName : Fc := fun K => He.eqO (PySem.W.nsIn K mainGlobals "BadName") (some (some (.ref (He.ga K "BadName"))))
def q_aE_NameTaken : Fc := fun K => He.eqO (PySem.W.nsIn K mainGlobals "NameTaken") (some (some (.ref (He.ga K "NameTaken"))))
def q_aE_NoName : Fc := fun K => He.eqO (PySem.W.nsIn K mainGlobals "NoName") (some (some (.ref (He.ga K "NoName"))))
def q_aE_EmptyRing : Fc := fun K => He.eqO (PySem.W.nsIn K mainGlobals "EmptyRing") (some (some (.ref (He.ga K "EmptyRing"))))
def q_aE_NotInLot : Fc := fun K => He.eqO (PySem.W.nsIn K mainGlobals "NotInLot") (some (some (.ref (He.ga K "NotInLot"))))
def q_aE_BadBuild : Fc := fun K => He.eqO (PySem.W.nsIn K mainGlobals "BadBuild") (some (some (.ref (He.ga K "BadBuild"))))
def q_aE_BadGrowth : Fc := fun K => He.eqO (PySem.W.nsIn K mainGlobals "BadGrowth") (some (some (.ref (He.ga K "BadGrowth"))))
def q_aE_EmptyText : Fc := fun K => He.eqO (PySem.W.nsIn K mainGlobals "EmptyText") (some (some (.ref (He.ga K "EmptyText"))))
def q_aE_NothingToUndo : Fc := fun K => He.eqO (PySem.W.nsIn K mainGlobals "NothingToUndo") (some (some (.ref (He.ga K "NothingToUndo"))))
def q_aE_NothingToRedo : Fc := fun K => He.eqO (PySem.W.nsIn K mainGlobals "NothingToRedo") (some (some (.ref (He.ga K "NothingToRedo"))))
def q_ty_BadAlphabet : Fc := fun K => tyB (PySem.W.typeIn K (.ref (He.ga K "BadAlphabet"))) "type"
def q_kcE_BadAlphabet : Fc := fun K => PySem.W.keepIn K (.ref (He.ga K "BadAlphabet"))
def q_gaE_BadAlphabet : Fc := fun K => He.eqO (PySem.W.findIn K (.ref (He.ga K "BadAlphabet")) "__getattribute__") (some (some (.builtin "BaseException.__getattribute__")))
def q_ggE_BadAlphabet : Fc := fun K => He.eqO (PySem.W.findIn K (.ref (He.ga K "BadAlphabet")) "__getattr__") (some none)
def q_sbE_BadAlphabet : Fc := fun K => obB (PySem.W.subIn K (.ref (He.ga K "BadAlphabet")) (.type "BaseException")) true
def q_hdE_BadAlphabet : Fc := fun K => PySem.W.hasDictIn K (He.ga K "BadAlphabet")
def q_caE_BadAlphabet : Fc := fun K => He.eqO (PySem.W.findIn K (.ref (He.ga K "BadAlphabet")) "__class__") (some (some (.builtin "object.__class__")))
def q_mrE_BadAlphabet : Fc := fun K => obB (PySem.W.mroIn K (He.ga K "BadAlphabet") (.type "object")) true
def q_xL_BadAlphabet : Fc := fun K => xcB K (He.ga K "BadAlphabet")
def q_saE_BadAlphabet : Fc := fun K => He.eqO (PySem.W.findIn K (.ref (He.ga K "BadAlphabet")) "__setattr__") (some (some (.builtin "object.__setattr__")))
def q_iE_BadAlphabet : Fc := fun K => He.eqO (PySem.W.findIn K (.ref (He.ga K "BadAlphabet")) "__init__") (some (some (.ref (He.fAd K ("BadAlphabet", some "__init__")))))
def q_tiE_BadAlphabet : Fc := fun K => tyB (PySem.W.typeIn K (.ref (He.fAd K ("BadAlphabet", some "__init__")))) "function"
def q_kpE_BadAlphabet : Fc := fun K => PySem.W.keepIn K (.ref (He.fAd K ("BadAlphabet", some "__init__")))
def qs_1 : List Fc := [q_a31, q_k31, q_a32, q_k32, q_a33, q_k33, q_a34, q_k34, q_a35, q_k35, q_a36, q_k36, q_a37, q_k37, q_a38, q_k38, q_a39, q_k39, q_a40, q_k40, q_a41, q_k41, q_hn_get, q_ht_get, q_aE_PressError, q_aE_BadAlphabet, q_aE_BadLetter, q_aE_BadRow, q_aE_BadTail, q_aE_BadRank, q_aE_NotBits, q_aE_BadIndex, q_aE_BadStanding, q_aE_BadRule, q_aE_AlphabetsDiffer, q_aE_DoesNotComeBack, q_aE_TooLarge, q_aE_NotWritten, q_aE_NoSuchText, q_aE_BadName, q_aE_NameTaken, q_aE_NoName, q_aE_EmptyRing, q_aE_NotInLot, q_aE_BadBuild, q_aE_BadGrowth, q_aE_EmptyText, q_aE_NothingToUndo, q_aE_NothingToRedo, q_ty_BadAlphabet, q_kcE_BadAlphabet, q_gaE_BadAlphabet, q_ggE_BadAlphabet, q_sbE_BadAlphabet, q_hdE_BadAlphabet, q_caE_BadAlphabet, q_mrE_BadAlphabet, q_xL_BadAlphabet, q_saE_BadAlphabet, q_iE_BadAlphabet, q_tiE_BadAlphabet, q_kpE_BadAlphabet]
def q_nfE_BadAlphabet_alphabet : Fc := fun K => He.eqO (PySem.W.findIn K (.ref (He.ga K "BadAlphabet")) "alphabet") (some none)
def q_kt_BadAlphabet_PressError : Fc := fun K => obB (PySem.W.kitOne K (.ref (He.ga K "BadAlphabet")) (.ref (He.ga K "PressError"))) true
def q_kt_BadAlphabet_BadAlphabet : Fc := fun K => obB (PySem.W.kitOne K (.ref (He.ga K "BadAlphabet")) (.ref (He.ga K "BadAlphabet"))) true
def q_kt_BadAlphabet_BadLetter : Fc := fun K => obB (PySem.W.kitOne K (.ref (He.ga K "BadAlphabet")) (.ref (He.ga K "BadLetter"))) false
def q_kt_BadAlphabet_BadRow : Fc := fun K => obB (PySem.W.kitOne K (.ref (He.ga K "BadAlphabet")) (.ref (He.ga K "BadRow"))) false
def q_kt_BadAlphabet_BadTail : Fc := fun K => obB (PySem.W.kitOne K (.ref (He.ga K "BadAlphabet")) (.ref (He.ga K "BadTail"))) false
def q_kt_BadAlphabet_BadRank : Fc := fun K => obB (PySem.W.kitOne K (.ref (He.ga K "BadAlphabet")) (.ref (He.ga K "BadRank"))) false
def q_kt_BadAlphabet_NotBits : Fc := fun K => obB (PySem.W.kitOne K (.ref (He.ga K "BadAlphabet")) (.ref (He.ga K "NotBits"))) false
def q_kt_BadAlphabet_BadIndex : Fc := fun K => obB (PySem.W.kitOne K (.ref (He.ga K "BadAlphabet")) (.ref (He.ga K "BadIndex"))) false
def q_kt_BadAlphabet_BadStanding : Fc := fun K => obB (PySem.W.kitOne K (.ref (He.ga K "BadAlphabet")) (.ref (He.ga K "BadStanding"))) false
def q_kt_BadAlphabet_BadRule : Fc := fun K => obB (PySem.W.kitOne K (.ref (He.ga K "BadAlphabet")) (.ref (He.ga K "BadRule"))) false
def q_kt_BadAlphabet_AlphabetsDiffer : Fc := fun K => obB (PySem.W.kitOne K (.ref (He.ga K "BadAlphabet")) (.ref (He.ga K "AlphabetsDiffer"))) false
def q_kt_BadAlphabet_DoesNotComeBack : Fc := fun K => obB (PySem.W.kitOne K (.ref (He.ga K "BadAlphabet")) (.ref (He.ga K "DoesNotComeBack"))) false
def q_kt_BadAlphabet_TooLarge : Fc := fun K => obB (PySem.W.kitOne K (.ref (He.ga K "BadAlphabet")) (.ref (He.ga K "TooLarge"))) false
def q_kt_BadAlphabet_NotWritten : Fc := fun K => obB (PySem.W.kitOne K (.ref (He.ga K "BadAlphabet")) (.ref (He.ga K "NotWritten"))) false
def q_kt_BadAlphabet_NoSuchText : Fc := fun K => obB (PySem.W.kitOne K (.ref (He.ga K "BadAlphabet")) (.ref (He.ga K "NoSuchText"))) false
def q_kt_BadAlphabet_BadName : Fc := fun K => obB (PySem.W.kitOne K (.ref (He.ga K "BadAlphabet")) (.ref (He.ga K "BadName"))) false
def q_kt_BadAlphabet_NameTaken : Fc := fun K => obB (PySem.W.kitOne K (.ref (He.ga K "BadAlphabet")) (.ref (He.ga K "NameTaken"))) false
def q_kt_BadAlphabet_NoName : Fc := fun K => obB (PySem.W.kitOne K (.ref (He.ga K "BadAlphabet")) (.ref (He.ga K "NoName"))) false
def q_kt_BadAlphabet_EmptyRing : Fc := fun K => obB (PySem.W.kitOne K (.ref (He.ga K "BadAlphabet")) (.ref (He.ga K "EmptyRing"))) false
def q_kt_BadAlphabet_NotInLot : Fc := fun K => obB (PySem.W.kitOne K (.ref (He.ga K "BadAlphabet")) (.ref (He.ga K "NotInLot"))) false
def q_kt_BadAlphabet_BadBuild : Fc := fun K => obB (PySem.W.kitOne K (.ref (He.ga K "BadAlphabet")) (.ref (He.ga K "BadBuild"))) false
def q_kt_BadAlphabet_BadGrowth : Fc := fun K => obB (PySem.W.kitOne K (.ref (He.ga K "BadAlphabet")) (.ref (He.ga K "BadGrowth"))) false
def q_kt_BadAlphabet_EmptyText : Fc := fun K => obB (PySem.W.kitOne K (.ref (He.ga K "BadAlphabet")) (.ref (He.ga K "EmptyText"))) false
def q_kt_BadAlphabet_NothingToUndo : Fc := fun K => obB (PySem.W.kitOne K (.ref (He.ga K "BadAlphabet")) (.ref (He.ga K "NothingToUndo"))) false
def q_kt_BadAlphabet_NothingToRedo : Fc := fun K => obB (PySem.W.kitOne K (.ref (He.ga K "BadAlphabet")) (.ref (He.ga K "NothingToRedo"))) false
def q_kt_BadAlphabet_VE : Fc := fun K => obB (PySem.W.kitOne K (.ref (He.ga K "BadAlphabet")) (.type "ValueError")) true
def q_ex_BadAlphabet_PressError : Fc := fun K => obB (PySem.W.exmOne K (.ref (He.ga K "BadAlphabet")) (.ref (He.ga K "PressError"))) true
def q_ty_BadLetter : Fc := fun K => tyB (PySem.W.typeIn K (.ref (He.ga K "BadLetter"))) "type"
def q_kcE_BadLetter : Fc := fun K => PySem.W.keepIn K (.ref (He.ga K "BadLetter"))
def q_gaE_BadLetter : Fc := fun K => He.eqO (PySem.W.findIn K (.ref (He.ga K "BadLetter")) "__getattribute__") (some (some (.builtin "BaseException.__getattribute__")))
def q_ggE_BadLetter : Fc := fun K => He.eqO (PySem.W.findIn K (.ref (He.ga K "BadLetter")) "__getattr__") (some none)
def q_sbE_BadLetter : Fc := fun K => obB (PySem.W.subIn K (.ref (He.ga K "BadLetter")) (.type "BaseException")) true
def q_hdE_BadLetter : Fc := fun K => PySem.W.hasDictIn K (He.ga K "BadLetter")
def q_caE_BadLetter : Fc := fun K => He.eqO (PySem.W.findIn K (.ref (He.ga K "BadLetter")) "__class__") (some (some (.builtin "object.__class__")))
def q_mrE_BadLetter : Fc := fun K => obB (PySem.W.mroIn K (He.ga K "BadLetter") (.type "object")) true
def q_xL_BadLetter : Fc := fun K => xcB K (He.ga K "BadLetter")
def q_saE_BadLetter : Fc := fun K => He.eqO (PySem.W.findIn K (.ref (He.ga K "BadLetter")) "__setattr__") (some (some (.builtin "object.__setattr__")))
def q_iE_BadLetter : Fc := fun K => He.eqO (PySem.W.findIn K (.ref (He.ga K "BadLetter")) "__init__") (some (some (.ref (He.fAd K ("BadLetter", some "__init__")))))
def q_tiE_BadLetter : Fc := fun K => tyB (PySem.W.typeIn K (.ref (He.fAd K ("BadLetter", some "__init__")))) "function"
def q_kpE_BadLetter : Fc := fun K => PySem.W.keepIn K (.ref (He.fAd K ("BadLetter", some "__init__")))
def q_nfE_BadLetter_index : Fc := fun K => He.eqO (PySem.W.findIn K (.ref (He.ga K "BadLetter")) "index") (some none)
def q_kt_BadLetter_PressError : Fc := fun K => obB (PySem.W.kitOne K (.ref (He.ga K "BadLetter")) (.ref (He.ga K "PressError"))) true
def q_kt_BadLetter_BadAlphabet : Fc := fun K => obB (PySem.W.kitOne K (.ref (He.ga K "BadLetter")) (.ref (He.ga K "BadAlphabet"))) false
def q_kt_BadLetter_BadLetter : Fc := fun K => obB (PySem.W.kitOne K (.ref (He.ga K "BadLetter")) (.ref (He.ga K "BadLetter"))) true
def q_kt_BadLetter_BadRow : Fc := fun K => obB (PySem.W.kitOne K (.ref (He.ga K "BadLetter")) (.ref (He.ga K "BadRow"))) false
def q_kt_BadLetter_BadTail : Fc := fun K => obB (PySem.W.kitOne K (.ref (He.ga K "BadLetter")) (.ref (He.ga K "BadTail"))) false
def q_kt_BadLetter_BadRank : Fc := fun K => obB (PySem.W.kitOne K (.ref (He.ga K "BadLetter")) (.ref (He.ga K "BadRank"))) false
def q_kt_BadLetter_NotBits : Fc := fun K => obB (PySem.W.kitOne K (.ref (He.ga K "BadLetter")) (.ref (He.ga K "NotBits"))) false
def q_kt_BadLetter_BadIndex : Fc := fun K => obB (PySem.W.kitOne K (.ref (He.ga K "BadLetter")) (.ref (He.ga K "BadIndex"))) false
def q_kt_BadLetter_BadStanding : Fc := fun K => obB (PySem.W.kitOne K (.ref (He.ga K "BadLetter")) (.ref (He.ga K "BadStanding"))) false
def q_kt_BadLetter_BadRule : Fc := fun K => obB (PySem.W.kitOne K (.ref (He.ga K "BadLetter")) (.ref (He.ga K "BadRule"))) false
def q_kt_BadLetter_AlphabetsDiffer : Fc := fun K => obB (PySem.W.kitOne K (.ref (He.ga K "BadLetter")) (.ref (He.ga K "AlphabetsDiffer"))) false
def q_kt_BadLetter_DoesNotComeBack : Fc := fun K => obB (PySem.W.kitOne K (.ref (He.ga K "BadLetter")) (.ref (He.ga K "DoesNotComeBack"))) false
def q_kt_BadLetter_TooLarge : Fc := fun K => obB (PySem.W.kitOne K (.ref (He.ga K "BadLetter")) (.ref (He.ga K "TooLarge"))) false
def q_kt_BadLetter_NotWritten : Fc := fun K => obB (PySem.W.kitOne K (.ref (He.ga K "BadLetter")) (.ref (He.ga K "NotWritten"))) false
def q_kt_BadLetter_NoSuchText : Fc := fun K => obB (PySem.W.kitOne K (.ref (He.ga K "BadLetter")) (.ref (He.ga K "NoSuchText"))) false
def q_kt_BadLetter_BadName : Fc := fun K => obB (PySem.W.kitOne K (.ref (He.ga K "BadLetter")) (.ref (He.ga K "BadName"))) false
def q_kt_BadLetter_NameTaken : Fc := fun K => obB (PySem.W.kitOne K (.ref (He.ga K "BadLetter")) (.ref (He.ga K "NameTaken"))) false
def q_kt_BadLetter_NoName : Fc := fun K => obB (PySem.W.kitOne K (.ref (He.ga K "BadLetter")) (.ref (He.ga K "NoName"))) false
def q_kt_BadLetter_EmptyRing : Fc := fun K => obB (PySem.W.kitOne K (.ref (He.ga K "BadLetter")) (.ref (He.ga K "EmptyRing"))) false
def q_kt_BadLetter_NotInLot : Fc := fun K => obB (PySem.W.kitOne K (.ref (He.ga K "BadLetter")) (.ref (He.ga K "NotInLot"))) false
def qs_2 : List Fc := [q_nfE_BadAlphabet_alphabet, q_kt_BadAlphabet_PressError, q_kt_BadAlphabet_BadAlphabet, q_kt_BadAlphabet_BadLetter, q_kt_BadAlphabet_BadRow, q_kt_BadAlphabet_BadTail, q_kt_BadAlphabet_BadRank, q_kt_BadAlphabet_NotBits, q_kt_BadAlphabet_BadIndex, q_kt_BadAlphabet_BadStanding, q_kt_BadAlphabet_BadRule, q_kt_BadAlphabet_AlphabetsDiffer, q_kt_BadAlphabet_DoesNotComeBack, q_kt_BadAlphabet_TooLarge, q_kt_BadAlphabet_NotWritten, q_kt_BadAlphabet_NoSuchText, q_kt_BadAlphabet_BadName, q_kt_BadAlphabet_NameTaken, q_kt_BadAlphabet_NoName, q_kt_BadAlphabet_EmptyRing, q_kt_BadAlphabet_NotInLot, q_kt_BadAlphabet_BadBuild, q_kt_BadAlphabet_BadGrowth, q_kt_BadAlphabet_EmptyText, q_kt_BadAlphabet_NothingToUndo, q_kt_BadAlphabet_NothingToRedo, q_kt_BadAlphabet_VE, q_ex_BadAlphabet_PressError, q_ty_BadLetter, q_kcE_BadLetter, q_gaE_BadLetter, q_ggE_BadLetter, q_sbE_BadLetter, q_hdE_BadLetter, q_caE_BadLetter, q_mrE_BadLetter, q_xL_BadLetter, q_saE_BadLetter, q_iE_BadLetter, q_tiE_BadLetter, q_kpE_BadLetter, q_nfE_BadLetter_index, q_kt_BadLetter_PressError, q_kt_BadLetter_BadAlphabet, q_kt_BadLetter_BadLetter, q_kt_BadLetter_BadRow, q_kt_BadLetter_BadTail, q_kt_BadLetter_BadRank, q_kt_BadLetter_NotBits, q_kt_BadLetter_BadIndex, q_kt_BadLetter_BadStanding, q_kt_BadLetter_BadRule, q_kt_BadLetter_AlphabetsDiffer, q_kt_BadLetter_DoesNotComeBack, q_kt_BadLetter_TooLarge, q_kt_BadLetter_NotWritten, q_kt_BadLetter_NoSuchText, q_kt_BadLetter_BadName, q_kt_BadLetter_NameTaken, q_kt_BadLetter_NoName, q_kt_BadLetter_EmptyRing, q_kt_BadLetter_NotInLot]
def q_kt_BadLetter_BadBuild : Fc := fun K => obB (PySem.W.kitOne K (.ref (He.ga K "BadLetter")) (.ref (He.ga K "BadBuild"))) false
def q_kt_BadLetter_BadGrowth : Fc := fun K => obB (PySem.W.kitOne K (.ref (He.ga K "BadLetter")) (.ref (He.ga K "BadGrowth"))) false
def q_kt_BadLetter_EmptyText : Fc := fun K => obB (PySem.W.kitOne K (.ref (He.ga K "BadLetter")) (.ref (He.ga K "EmptyText"))) false
def q_kt_BadLetter_NothingToUndo : Fc := fun K => obB (PySem.W.kitOne K (.ref (He.ga K "BadLetter")) (.ref (He.ga K "NothingToUndo"))) false
def q_kt_BadLetter_NothingToRedo : Fc := fun K => obB (PySem.W.kitOne K (.ref (He.ga K "BadLetter")) (.ref (He.ga K "NothingToRedo"))) false
def q_kt_BadLetter_VE : Fc := fun K => obB (PySem.W.kitOne K (.ref (He.ga K "BadLetter")) (.type "ValueError")) true
def q_ex_BadLetter_PressError : Fc := fun K => obB (PySem.W.exmOne K (.ref (He.ga K "BadLetter")) (.ref (He.ga K "PressError"))) true
def q_aC_Cut : Fc := fun K => He.eqO (PySem.W.nsIn K mainGlobals "Cut") (some (some (.ref (He.ga K "Cut"))))
def q_pg_Cut : Fc := fun K => PySem.W.plainGet K (He.ga K "Cut") Str.empty
def q_hd_Cut : Fc := fun K => PySem.W.hasDictIn K (He.ga K "Cut")
def q_po_Cut : Fc := fun K => PySem.W.plainOver K (He.ga K "Cut")
def q_sa_Cut : Fc := fun K => He.eqO (PySem.W.findIn K (.ref (He.ga K "Cut")) "__setattr__") (some (some (.builtin "object.__setattr__")))
def q_mk_Cut : Fc := fun K => PySem.W.makesIn K (He.ga K "Cut")
def q_kc_Cut : Fc := fun K => PySem.W.keepIn K (.ref (He.ga K "Cut"))
def q_n_Cut_alphabet : Fc := fun K => He.eqO (PySem.W.findIn K (.ref (He.ga K "Cut")) "alphabet") (some none)
def q_n_Cut_rows : Fc := fun K => He.eqO (PySem.W.findIn K (.ref (He.ga K "Cut")) "rows") (some none)
def q_n_Cut_tail : Fc := fun K => He.eqO (PySem.W.findIn K (.ref (He.ga K "Cut")) "tail") (some none)
def q_n_Cut_pieces : Fc := fun K => He.eqO (PySem.W.findIn K (.ref (He.ga K "Cut")) "pieces") (some none)
def q_n_Cut_many : Fc := fun K => He.eqO (PySem.W.findIn K (.ref (He.ga K "Cut")) "many") (some none)
def q_n_Cut_text : Fc := fun K => He.eqO (PySem.W.findIn K (.ref (He.ga K "Cut")) "text") (some none)
def q_n_Cut_starts : Fc := fun K => He.eqO (PySem.W.findIn K (.ref (He.ga K "Cut")) "starts") (some none)
def q_aC_Round : Fc := fun K => He.eqO (PySem.W.nsIn K mainGlobals "Round") (some (some (.ref (He.ga K "Round"))))
def q_pg_Round : Fc := fun K => PySem.W.plainGet K (He.ga K "Round") Str.empty
def q_hd_Round : Fc := fun K => PySem.W.hasDictIn K (He.ga K "Round")
def q_po_Round : Fc := fun K => PySem.W.plainOver K (He.ga K "Round")
def q_sa_Round : Fc := fun K => He.eqO (PySem.W.findIn K (.ref (He.ga K "Round")) "__setattr__") (some (some (.builtin "object.__setattr__")))
def q_mk_Round : Fc := fun K => PySem.W.makesIn K (He.ga K "Round")
def q_kc_Round : Fc := fun K => PySem.W.keepIn K (.ref (He.ga K "Round"))
def q_n_Round_alphabet : Fc := fun K => He.eqO (PySem.W.findIn K (.ref (He.ga K "Round")) "alphabet") (some none)
def q_n_Round_head : Fc := fun K => He.eqO (PySem.W.findIn K (.ref (He.ga K "Round")) "head") (some none)
def q_n_Round_ring : Fc := fun K => He.eqO (PySem.W.findIn K (.ref (He.ga K "Round")) "ring") (some none)
def q_n_Round_variety : Fc := fun K => He.eqO (PySem.W.findIn K (.ref (He.ga K "Round")) "variety") (some none)
def q_a42 : Fc := fun K => He.eqO (PySem.W.findIn K (.ref (He.ga K "Cut")) "__init__") (some (some (.ref (He.fAd K ("Cut", some "__init__")))))
def q_i42 : Fc := fun K => PySem.W.isFn K (.ref (He.fAd K ("Cut", some "__init__")))
def q_k42 : Fc := fun K => PySem.W.keepIn K (.ref (He.fAd K ("Cut", some "__init__")))
def q_a43 : Fc := fun K => He.eqO (PySem.W.findIn K (.ref (He.ga K "Round")) "__init__") (some (some (.ref (He.fAd K ("Round", some "__init__")))))
def q_i43 : Fc := fun K => PySem.W.isFn K (.ref (He.fAd K ("Round", some "__init__")))
def q_k43 : Fc := fun K => PySem.W.keepIn K (.ref (He.fAd K ("Round", some "__init__")))
def q_a44 : Fc := fun K => He.eqO (PySem.W.findIn K (.ref (He.ga K "Round")) "beginning") (some (some (.ref (He.fAd K ("Round", some "beginning")))))
def q_i44 : Fc := fun K => PySem.W.isFn K (.ref (He.fAd K ("Round", some "beginning")))
def q_k44 : Fc := fun K => PySem.W.keepIn K (.ref (He.fAd K ("Round", some "beginning")))
def q_z_ValueError : Fc := fun K => He.eqO (PySem.W.nsIn K mainGlobals "ValueError") (some none)
def q_z_all : Fc := fun K => He.eqO (PySem.W.nsIn K mainGlobals "all") (some none)
def q_z_bool : Fc := fun K => He.eqO (PySem.W.nsIn K mainGlobals "bool") (some none)
def q_z_enumerate : Fc := fun K => He.eqO (PySem.W.nsIn K mainGlobals "enumerate") (some none)
def q_z_int : Fc := fun K => He.eqO (PySem.W.nsIn K mainGlobals "int") (some none)
def q_z_isinstance : Fc := fun K => He.eqO (PySem.W.nsIn K mainGlobals "isinstance") (some none)
def q_z_len : Fc := fun K => He.eqO (PySem.W.nsIn K mainGlobals "len") (some none)
def q_z_list : Fc := fun K => He.eqO (PySem.W.nsIn K mainGlobals "list") (some none)
def q_z_min : Fc := fun K => He.eqO (PySem.W.nsIn K mainGlobals "min") (some none)
def q_z_range : Fc := fun K => He.eqO (PySem.W.nsIn K mainGlobals "range") (some none)
def q_z_repr : Fc := fun K => He.eqO (PySem.W.nsIn K mainGlobals "repr") (some none)
def q_z_sorted : Fc := fun K => He.eqO (PySem.W.nsIn K mainGlobals "sorted") (some none)
def q_z_str : Fc := fun K => He.eqO (PySem.W.nsIn K mainGlobals "str") (some none)
def q_z_sum : Fc := fun K => He.eqO (PySem.W.nsIn K mainGlobals "sum") (some none)
def q_z_tuple : Fc := fun K => He.eqO (PySem.W.nsIn K mainGlobals "tuple") (some none)
def q_z_zip : Fc := fun K => He.eqO (PySem.W.nsIn K mainGlobals "zip") (some none)
def q_g_LETTERS : Fc := fun K => strB K "LETTERS" (Str.ofString "0123456789abcdefghijklmnopqrstuvwxyz")
def q_g_MOST_LETTERS : Fc := fun K => intB K "MOST_LETTERS" 6
def qs_3 : List Fc := [q_kt_BadLetter_BadBuild, q_kt_BadLetter_BadGrowth, q_kt_BadLetter_EmptyText, q_kt_BadLetter_NothingToUndo, q_kt_BadLetter_NothingToRedo, q_kt_BadLetter_VE, q_ex_BadLetter_PressError, q_aC_Cut, q_pg_Cut, q_hd_Cut, q_po_Cut, q_sa_Cut, q_mk_Cut, q_kc_Cut, q_n_Cut_alphabet, q_n_Cut_rows, q_n_Cut_tail, q_n_Cut_pieces, q_n_Cut_many, q_n_Cut_text, q_n_Cut_starts, q_aC_Round, q_pg_Round, q_hd_Round, q_po_Round, q_sa_Round, q_mk_Round, q_kc_Round, q_n_Round_alphabet, q_n_Round_head, q_n_Round_ring, q_n_Round_variety, q_a42, q_i42, q_k42, q_a43, q_i43, q_k43, q_a44, q_i44, q_k44, q_z_ValueError, q_z_all, q_z_bool, q_z_enumerate, q_z_int, q_z_isinstance, q_z_len, q_z_list, q_z_min, q_z_range, q_z_repr, q_z_sorted, q_z_str, q_z_sum, q_z_tuple, q_z_zip, q_g_LETTERS, q_g_MOST_LETTERS]
def qs : List (List Fc) := [qs_0, qs_1, qs_2, qs_3]
def fd_0 : He.FnD := ⟨("is_alphabet", none), "is_alphabet", "is_alphabet", defArgs s_is_alphabet, defBody s_is_alphabet, defScope s_is_alphabet⟩
def fd_1 : He.FnD := ⟨("is_letter", none), "is_letter", "is_letter", defArgs s_is_letter, defBody s_is_letter, defScope s_is_letter⟩
def fd_2 : He.FnD := ⟨("check_alphabet", none), "check_alphabet", "check_alphabet", defArgs s_check_alphabet, defBody s_check_alphabet, defScope s_check_alphabet⟩
def fd_3 : He.FnD := ⟨("check_text", none), "check_text", "check_text", defArgs s_check_text, defBody s_check_text, defScope s_check_text⟩
def fd_4 : He.FnD := ⟨("is_whole", none), "is_whole", "is_whole", defArgs s_is_whole, defBody s_is_whole, defScope s_is_whole⟩
def fd_5 : He.FnD := ⟨("is_number_below", none), "is_number_below", "is_number_below", defArgs s_is_number_below, defBody s_is_number_below, defScope s_is_number_below⟩
def fd_6 : He.FnD := ⟨("as_tuples", none), "as_tuples", "as_tuples", defArgs s_as_tuples, defBody s_as_tuples, defScope s_as_tuples⟩
def fd_7 : He.FnD := ⟨("check_rows", none), "check_rows", "check_rows", defArgs s_check_rows, defBody s_check_rows, defScope s_check_rows⟩
def fd_8 : He.FnD := ⟨("pieces_of", none), "pieces_of", "pieces_of", defArgs s_pieces_of, defBody s_pieces_of, defScope s_pieces_of⟩
def fd_9 : He.FnD := ⟨("starts_of", none), "starts_of", "starts_of", defArgs s_starts_of, defBody s_starts_of, defScope s_starts_of⟩
def fd_10 : He.FnD := ⟨("cut_of", none), "cut_of", "cut_of", defArgs s_cut_of, defBody s_cut_of, defScope s_cut_of⟩
def fd_11 : He.FnD := ⟨("width", none), "width", "width", defArgs s_width, defBody s_width, defScope s_width⟩
def fd_12 : He.FnD := ⟨("number_bits", none), "number_bits", "number_bits", defArgs s_number_bits, defBody s_number_bits, defScope s_number_bits⟩
def fd_13 : He.FnD := ⟨("free_places", none), "free_places", "free_places", defArgs s_free_places, defBody s_free_places, defScope s_free_places⟩
def fd_14 : He.FnD := ⟨("count_below", none), "count_below", "count_below", defArgs s_count_below, defBody s_count_below, defScope s_count_below⟩
def fd_15 : He.FnD := ⟨("place_numbers", none), "place_numbers", "place_numbers", defArgs s_place_numbers, defBody s_place_numbers, defScope s_place_numbers⟩
def fd_16 : He.FnD := ⟨("press", none), "press", "press", defArgs s_press, defBody s_press, defScope s_press⟩
def fd_17 : He.FnD := ⟨("turned_letters", none), "turned_letters", "turned_letters", defArgs s_turned_letters, defBody s_turned_letters, defScope s_turned_letters⟩
def fd_18 : He.FnD := ⟨("_law_whole", none), "_law_whole", "_law_whole", defArgs s__law_whole, defBody s__law_whole, defScope s__law_whole⟩
def fd_19 : He.FnD := ⟨("_law_cell", none), "_law_cell", "_law_cell", defArgs s__law_cell, defBody s__law_cell, defScope s__law_cell⟩
def fd_20 : He.FnD := ⟨("_law_digits", none), "_law_digits", "_law_digits", defArgs s__law_digits, defBody s__law_digits, defScope s__law_digits⟩
def fd_21 : He.FnD := ⟨("_law_signs", none), "_law_signs", "_law_signs", defArgs s__law_signs, defBody s__law_signs, defScope s__law_signs⟩
def fd_22 : He.FnD := ⟨("_law_free_word", none), "_law_free_word", "_law_free_word", defArgs s__law_free_word, defBody s__law_free_word, defScope s__law_free_word⟩
def fd_23 : He.FnD := ⟨("_law_counting_word", none), "_law_counting_word", "_law_counting_word", defArgs s__law_counting_word, defBody s__law_counting_word, defScope s__law_counting_word⟩
def fd_24 : He.FnD := ⟨("_law_word", none), "_law_word", "_law_word", defArgs s__law_word, defBody s__law_word, defScope s__law_word⟩
def fd_25 : He.FnD := ⟨("_law_long_word", none), "_law_long_word", "_law_long_word", defArgs s__law_long_word, defBody s__law_long_word, defScope s__law_long_word⟩
def fd_26 : He.FnD := ⟨("_law_cut", none), "_law_cut", "_law_cut", defArgs s__law_cut, defBody s__law_cut, defScope s__law_cut⟩
def fd_27 : He.FnD := ⟨("_law_width", none), "_law_width", "_law_width", defArgs s__law_width, defBody s__law_width, defScope s__law_width⟩
def fd_28 : He.FnD := ⟨("_law_number", none), "_law_number", "_law_number", defArgs s__law_number, defBody s__law_number, defScope s__law_number⟩
def fd_29 : He.FnD := ⟨("_law_numbers", none), "_law_numbers", "_law_numbers", defArgs s__law_numbers, defBody s__law_numbers, defScope s__law_numbers⟩
def fd_30 : He.FnD := ⟨("_law_many_numbers", none), "_law_many_numbers", "_law_many_numbers", defArgs s__law_many_numbers, defBody s__law_many_numbers, defScope s__law_many_numbers⟩
def fd_31 : He.FnD := ⟨("_law_wider", none), "_law_wider", "_law_wider", defArgs s__law_wider, defBody s__law_wider, defScope s__law_wider⟩
def fd_32 : He.FnD := ⟨("_law_spoilt", none), "_law_spoilt", "_law_spoilt", defArgs s__law_spoilt, defBody s__law_spoilt, defScope s__law_spoilt⟩
def fd_33 : He.FnD := ⟨("_law_no_signs", none), "_law_no_signs", "_law_no_signs", defArgs s__law_no_signs, defBody s__law_no_signs, defScope s__law_no_signs⟩
def fd_34 : He.FnD := ⟨("_law_first_strange", none), "_law_first_strange", "_law_first_strange", defArgs s__law_first_strange, defBody s__law_first_strange, defScope s__law_first_strange⟩
def fd_35 : He.FnD := ⟨("_law_kin", none), "_law_kin", "_law_kin", defArgs s__law_kin, defBody s__law_kin, defScope s__law_kin⟩
def fd_36 : He.FnD := ⟨("_law_answer", none), "_law_answer", "_law_answer", defArgs s__law_answer, defBody s__law_answer, defScope s__law_answer⟩
def fd_37 : He.FnD := ⟨("_law_judged", none), "_law_judged", "_law_judged", defArgs s__law_judged, defBody s__law_judged, defScope s__law_judged⟩
def fd_38 : He.FnD := ⟨("_law_refused", none), "_law_refused", "_law_refused", defArgs s__law_refused, defBody s__law_refused, defScope s__law_refused⟩
def fd_39 : He.FnD := ⟨("_law_cut_pressed", none), "_law_cut_pressed", "_law_cut_pressed", defArgs s__law_cut_pressed, defBody s__law_cut_pressed, defScope s__law_cut_pressed⟩
def fd_40 : He.FnD := ⟨("_law_beginning_pressed", none), "_law_beginning_pressed", "_law_beginning_pressed", defArgs s__law_beginning_pressed, defBody s__law_beginning_pressed, defScope s__law_beginning_pressed⟩
def fd_41 : He.FnD := ⟨("law", none), "law", "law", defArgs s_law, defBody s_law, defScope s_law⟩
def fd_42 : He.FnD := ⟨("Cut", some "__init__"), "__init__", "Cut.__init__", defArgs s_Cut___init__, defBody s_Cut___init__, defScope s_Cut___init__⟩
def fd_43 : He.FnD := ⟨("Round", some "__init__"), "__init__", "Round.__init__", defArgs s_Round___init__, defBody s_Round___init__, defScope s_Round___init__⟩
def fd_44 : He.FnD := ⟨("Round", some "beginning"), "beginning", "Round.beginning", defArgs s_Round_beginning, defBody s_Round_beginning, defScope s_Round_beginning⟩
def fd_45 : He.FnD := ⟨("BadAlphabet", some "__init__"), "__init__", "BadAlphabet.__init__", defArgs s_BadAlphabet___init__, defBody s_BadAlphabet___init__, defScope s_BadAlphabet___init__⟩
def fd_46 : He.FnD := ⟨("BadLetter", some "__init__"), "__init__", "BadLetter.__init__", defArgs s_BadLetter___init__, defBody s_BadLetter___init__, defScope s_BadLetter___init__⟩
def fns : List He.FnD := [fd_0, fd_1, fd_2, fd_3, fd_4, fd_5, fd_6, fd_7, fd_8, fd_9, fd_10, fd_11, fd_12, fd_13, fd_14, fd_15, fd_16, fd_17, fd_18, fd_19, fd_20, fd_21, fd_22, fd_23, fd_24, fd_25, fd_26, fd_27, fd_28, fd_29, fd_30, fd_31, fd_32, fd_33, fd_34, fd_35, fd_36, fd_37, fd_38, fd_39, fd_40, fd_41, fd_42, fd_43, fd_44, fd_45, fd_46]
def nm_0 : List PySem.Str := ["_wall", "__name__", "PressError", "BadAlphabet", "BadLetter", "BadRow", "BadTail", "BadRank", "NotBits", "BadIndex", "BadStanding", "BadRule", "AlphabetsDiffer", "DoesNotComeBack", "TooLarge", "NotWritten", "NoSuchText", "BadName", "NameTaken", "NoName", "EmptyRing", "NotInLot", "BadBuild", "BadGrowth", "EmptyText", "NothingToUndo", "NothingToRedo", "LETTERS", "MOST_LETTERS", "is_alphabet"]
def nm_1 : List PySem.Str := ["is_letter", "check_alphabet", "check_text", "is_whole", "is_number_below", "as_tuples", "Cut", "check_rows", "pieces_of", "starts_of", "cut_of", "width", "number_bits", "free_places", "count_below", "place_numbers", "press", "Round", "turned_letters", "_law_whole", "_law_cell", "_law_digits", "_law_signs", "_law_free_word", "_law_counting_word", "_law_word", "_law_long_word", "_law_cut", "_law_width", "_law_number"]
def nm_2 : List PySem.Str := ["_law_numbers", "_law_many_numbers", "_law_wider", "_law_spoilt", "_law_no_signs", "_law_first_strange", "_law_kin", "_law_answer", "_law_judged", "_law_refused", "_law_cut_pressed", "_law_beginning_pressed"]
def nms : List PySem.Str := nm_0 ++ nm_1 ++ nm_2
abbrev RR : PySem.W.OpenRow := PySem.W.OpenLaw.row PySem.Challenge.rw_outpressed_k03_block_whole
abbrev qv : Program := PySem.W.view RR.prog [79]
abbrev hk : PySem.W.Hook := hookH 4 qs fns
def obT (s : PySem.W.SharedT) : He.Al := obsHG 4 qs fns (HandSHeadRun.getT s)
theorem obT_eq (s : PySem.W.SharedT) : obT s = hk.obs s.abs := obsHG_eq (HandSHeadRun.getT_eq s)
section
open PySem.W HandSHeadRun
theorem pc_0 (w : World) : Pc RR 20000 w (fun s => (looksF RR.prog (boot_heap w.params) s.abs, seenQ qv nms (importedModules RR.prog.main.body) (fun s => xlAt qv [] s && recOk RR.toRowW.records s) s.abs)) (true, openGood qv nms) := by
  intro os
  kernel_rfl
theorem pq_0 (w : World) : Pc RR 20000 w (fun s => qs_0.all fun f => f (KofS 4 s)) true := by
  intro os
  kernel_rfl
theorem pq_1 (w : World) : Pc RR 20000 w (fun s => qs_1.all fun f => f (KofS 4 s)) true := by
  intro os
  kernel_rfl
theorem pq_2 (w : World) : Pc RR 20000 w (fun s => qs_2.all fun f => f (KofS 4 s)) true := by
  intro os
  kernel_rfl
theorem pq_3 (w : World) : Pc RR 20000 w (fun s => qs_3.all fun f => f (KofS 4 s)) true := by
  intro os
  kernel_rfl
theorem pc_n (w : World) : Pc RR 20000 w (fun s => obsN fns (KofS 4 s)) (He.valE fns) := by
  intro os
  kernel_rfl
theorem runs (w : World) : HandSHeadRun.RunEq RR qv hk obT 20000 nms w := run_join (pc_0 w) (fun l hl => by
  simp only [qs, List.mem_cons, List.not_mem_nil, or_false] at hl
  rcases hl with rfl | rfl | rfl | rfl
  · exact pq_0 w
  · exact pq_1 w
  · exact pq_2 w
  · exact pq_3 w) (pc_n w)
end
theorem facts {l : PySem.W.OpenLaw} {w : World} {K : PySem.W.Frag} {h : Heap} {mg : Str → Option Value} {fa : Addr} (X : K.In h) (c : SaysH qs fns K) (G : h.Ns mainGlobals mg) (hfa : mg "law" = some (.ref fa)) : ∃ fd : FuncData, (∀ (s : Shared) (v : Value), BindsTo s fd ⟨[v], []⟩ [("script", v)]) ∧ ∀ base : Heap, K.In base → base.Ns mainGlobals mg → FnG l.prog w K mg base CX0 11 fa fd ["script"] (spLaw K) := by
  obtain ⟨_, _, _, _, _, _, _, _, _, l0, c0⟩ := c.def_ 0 (d := fd_0) rfl
  obtain ⟨_, _, _, _, _, _, _, _, _, l1, c1⟩ := c.def_ 1 (d := fd_1) rfl
  obtain ⟨_, _, _, _, _, _, _, _, _, l2, c2⟩ := c.def_ 2 (d := fd_2) rfl
  obtain ⟨_, _, _, _, _, _, _, _, _, l3, c3⟩ := c.def_ 3 (d := fd_3) rfl
  obtain ⟨_, _, _, _, _, _, _, _, _, l4, c4⟩ := c.def_ 4 (d := fd_4) rfl
  obtain ⟨_, _, _, _, _, _, _, _, _, l5, c5⟩ := c.def_ 5 (d := fd_5) rfl
  obtain ⟨_, _, _, _, _, _, _, _, _, l6, c6⟩ := c.def_ 6 (d := fd_6) rfl
  obtain ⟨_, _, _, _, _, _, _, _, _, l7, c7⟩ := c.def_ 7 (d := fd_7) rfl
  obtain ⟨_, _, _, _, _, _, _, _, _, l8, c8⟩ := c.def_ 8 (d := fd_8) rfl
  obtain ⟨_, _, _, _, _, _, _, _, _, l9, c9⟩ := c.def_ 9 (d := fd_9) rfl
  obtain ⟨_, _, _, _, _, _, _, _, _, l10, c10⟩ := c.def_ 10 (d := fd_10) rfl
  obtain ⟨_, _, _, _, _, _, _, _, _, l11, c11⟩ := c.def_ 11 (d := fd_11) rfl
  obtain ⟨_, _, _, _, _, _, _, _, _, l12, c12⟩ := c.def_ 12 (d := fd_12) rfl
  obtain ⟨_, _, _, _, _, _, _, _, _, l13, c13⟩ := c.def_ 13 (d := fd_13) rfl
  obtain ⟨_, _, _, _, _, _, _, _, _, l14, c14⟩ := c.def_ 14 (d := fd_14) rfl
  obtain ⟨_, _, _, _, _, _, _, _, _, l15, c15⟩ := c.def_ 15 (d := fd_15) rfl
  obtain ⟨_, _, _, _, _, _, _, _, _, l16, c16⟩ := c.def_ 16 (d := fd_16) rfl
  obtain ⟨_, _, _, _, _, _, _, _, _, l17, c17⟩ := c.def_ 17 (d := fd_17) rfl
  obtain ⟨_, _, _, _, _, _, _, _, _, l18, c18⟩ := c.def_ 18 (d := fd_18) rfl
  obtain ⟨_, _, _, _, _, _, _, _, _, l19, c19⟩ := c.def_ 19 (d := fd_19) rfl
  obtain ⟨_, _, _, _, _, _, _, _, _, l20, c20⟩ := c.def_ 20 (d := fd_20) rfl
  obtain ⟨_, _, _, _, _, _, _, _, _, l21, c21⟩ := c.def_ 21 (d := fd_21) rfl
  obtain ⟨_, _, _, _, _, _, _, _, _, l22, c22⟩ := c.def_ 22 (d := fd_22) rfl
  obtain ⟨_, _, _, _, _, _, _, _, _, l23, c23⟩ := c.def_ 23 (d := fd_23) rfl
  obtain ⟨_, _, _, _, _, _, _, _, _, l24, c24⟩ := c.def_ 24 (d := fd_24) rfl
  obtain ⟨_, _, _, _, _, _, _, _, _, l25, c25⟩ := c.def_ 25 (d := fd_25) rfl
  obtain ⟨_, _, _, _, _, _, _, _, _, l26, c26⟩ := c.def_ 26 (d := fd_26) rfl
  obtain ⟨_, _, _, _, _, _, _, _, _, l27, c27⟩ := c.def_ 27 (d := fd_27) rfl
  obtain ⟨_, _, _, _, _, _, _, _, _, l28, c28⟩ := c.def_ 28 (d := fd_28) rfl
  obtain ⟨_, _, _, _, _, _, _, _, _, l29, c29⟩ := c.def_ 29 (d := fd_29) rfl
  obtain ⟨_, _, _, _, _, _, _, _, _, l30, c30⟩ := c.def_ 30 (d := fd_30) rfl
  obtain ⟨_, _, _, _, _, _, _, _, _, l31, c31⟩ := c.def_ 31 (d := fd_31) rfl
  obtain ⟨_, _, _, _, _, _, _, _, _, l32, c32⟩ := c.def_ 32 (d := fd_32) rfl
  obtain ⟨_, _, _, _, _, _, _, _, _, l33, c33⟩ := c.def_ 33 (d := fd_33) rfl
  obtain ⟨_, _, _, _, _, _, _, _, _, l34, c34⟩ := c.def_ 34 (d := fd_34) rfl
  obtain ⟨_, _, _, _, _, _, _, _, _, l35, c35⟩ := c.def_ 35 (d := fd_35) rfl
  obtain ⟨_, _, _, _, _, _, _, _, _, l36, c36⟩ := c.def_ 36 (d := fd_36) rfl
  obtain ⟨_, _, _, _, _, _, _, _, _, l37, c37⟩ := c.def_ 37 (d := fd_37) rfl
  obtain ⟨_, _, _, _, _, _, _, _, _, l38, c38⟩ := c.def_ 38 (d := fd_38) rfl
  obtain ⟨_, _, _, _, _, _, _, _, _, l39, c39⟩ := c.def_ 39 (d := fd_39) rfl
  obtain ⟨_, _, _, _, _, _, _, _, _, l40, c40⟩ := c.def_ 40 (d := fd_40) rfl
  obtain ⟨_, _, _, _, _, _, _, _, _, l41, c41⟩ := c.def_ 41 (d := fd_41) rfl
  obtain ⟨_, _, _, _, _, _, _, _, _, l42, c42⟩ := c.def_ 42 (d := fd_42) rfl
  obtain ⟨_, _, _, _, _, _, _, _, _, l43, c43⟩ := c.def_ 43 (d := fd_43) rfl
  obtain ⟨_, _, _, _, _, _, _, _, _, l44, c44⟩ := c.def_ 44 (d := fd_44) rfl
  obtain ⟨_, _, _, _, _, _, _, _, _, lE_BadAlphabet, ccE_BadAlphabet⟩ := c.def_ 45 (d := fd_45) rfl
  obtain ⟨_, _, _, _, _, _, _, _, _, lE_BadLetter, ccE_BadLetter⟩ := c.def_ 46 (d := fd_46) rfl
  have a0 : PySem.W.nsIn K mainGlobals "is_alphabet" = some (some (.ref (He.fAd K ("is_alphabet", none)))) := He.eqO_ok (c.fact 0 0 (f := q_a0) rfl rfl)
  have k0 : PySem.W.keepIn K (.ref (He.fAd K ("is_alphabet", none))) = true := c.fact 0 1 (f := q_k0) rfl rfl
  have a1 : PySem.W.nsIn K mainGlobals "is_letter" = some (some (.ref (He.fAd K ("is_letter", none)))) := He.eqO_ok (c.fact 0 2 (f := q_a1) rfl rfl)
  have k1 : PySem.W.keepIn K (.ref (He.fAd K ("is_letter", none))) = true := c.fact 0 3 (f := q_k1) rfl rfl
  have a2 : PySem.W.nsIn K mainGlobals "check_alphabet" = some (some (.ref (He.fAd K ("check_alphabet", none)))) := He.eqO_ok (c.fact 0 4 (f := q_a2) rfl rfl)
  have k2 : PySem.W.keepIn K (.ref (He.fAd K ("check_alphabet", none))) = true := c.fact 0 5 (f := q_k2) rfl rfl
  have a3 : PySem.W.nsIn K mainGlobals "check_text" = some (some (.ref (He.fAd K ("check_text", none)))) := He.eqO_ok (c.fact 0 6 (f := q_a3) rfl rfl)
  have k3 : PySem.W.keepIn K (.ref (He.fAd K ("check_text", none))) = true := c.fact 0 7 (f := q_k3) rfl rfl
  have a4 : PySem.W.nsIn K mainGlobals "is_whole" = some (some (.ref (He.fAd K ("is_whole", none)))) := He.eqO_ok (c.fact 0 8 (f := q_a4) rfl rfl)
  have k4 : PySem.W.keepIn K (.ref (He.fAd K ("is_whole", none))) = true := c.fact 0 9 (f := q_k4) rfl rfl
  have a5 : PySem.W.nsIn K mainGlobals "is_number_below" = some (some (.ref (He.fAd K ("is_number_below", none)))) := He.eqO_ok (c.fact 0 10 (f := q_a5) rfl rfl)
  have k5 : PySem.W.keepIn K (.ref (He.fAd K ("is_number_below", none))) = true := c.fact 0 11 (f := q_k5) rfl rfl
  have a6 : PySem.W.nsIn K mainGlobals "as_tuples" = some (some (.ref (He.fAd K ("as_tuples", none)))) := He.eqO_ok (c.fact 0 12 (f := q_a6) rfl rfl)
  have k6 : PySem.W.keepIn K (.ref (He.fAd K ("as_tuples", none))) = true := c.fact 0 13 (f := q_k6) rfl rfl
  have a7 : PySem.W.nsIn K mainGlobals "check_rows" = some (some (.ref (He.fAd K ("check_rows", none)))) := He.eqO_ok (c.fact 0 14 (f := q_a7) rfl rfl)
  have k7 : PySem.W.keepIn K (.ref (He.fAd K ("check_rows", none))) = true := c.fact 0 15 (f := q_k7) rfl rfl
  have a8 : PySem.W.nsIn K mainGlobals "pieces_of" = some (some (.ref (He.fAd K ("pieces_of", none)))) := He.eqO_ok (c.fact 0 16 (f := q_a8) rfl rfl)
  have k8 : PySem.W.keepIn K (.ref (He.fAd K ("pieces_of", none))) = true := c.fact 0 17 (f := q_k8) rfl rfl
  have a9 : PySem.W.nsIn K mainGlobals "starts_of" = some (some (.ref (He.fAd K ("starts_of", none)))) := He.eqO_ok (c.fact 0 18 (f := q_a9) rfl rfl)
  have k9 : PySem.W.keepIn K (.ref (He.fAd K ("starts_of", none))) = true := c.fact 0 19 (f := q_k9) rfl rfl
  have a10 : PySem.W.nsIn K mainGlobals "cut_of" = some (some (.ref (He.fAd K ("cut_of", none)))) := He.eqO_ok (c.fact 0 20 (f := q_a10) rfl rfl)
  have k10 : PySem.W.keepIn K (.ref (He.fAd K ("cut_of", none))) = true := c.fact 0 21 (f := q_k10) rfl rfl
  have a11 : PySem.W.nsIn K mainGlobals "width" = some (some (.ref (He.fAd K ("width", none)))) := He.eqO_ok (c.fact 0 22 (f := q_a11) rfl rfl)
  have k11 : PySem.W.keepIn K (.ref (He.fAd K ("width", none))) = true := c.fact 0 23 (f := q_k11) rfl rfl
  have a12 : PySem.W.nsIn K mainGlobals "number_bits" = some (some (.ref (He.fAd K ("number_bits", none)))) := He.eqO_ok (c.fact 0 24 (f := q_a12) rfl rfl)
  have k12 : PySem.W.keepIn K (.ref (He.fAd K ("number_bits", none))) = true := c.fact 0 25 (f := q_k12) rfl rfl
  have a13 : PySem.W.nsIn K mainGlobals "free_places" = some (some (.ref (He.fAd K ("free_places", none)))) := He.eqO_ok (c.fact 0 26 (f := q_a13) rfl rfl)
  have k13 : PySem.W.keepIn K (.ref (He.fAd K ("free_places", none))) = true := c.fact 0 27 (f := q_k13) rfl rfl
  have a14 : PySem.W.nsIn K mainGlobals "count_below" = some (some (.ref (He.fAd K ("count_below", none)))) := He.eqO_ok (c.fact 0 28 (f := q_a14) rfl rfl)
  have k14 : PySem.W.keepIn K (.ref (He.fAd K ("count_below", none))) = true := c.fact 0 29 (f := q_k14) rfl rfl
  have a15 : PySem.W.nsIn K mainGlobals "place_numbers" = some (some (.ref (He.fAd K ("place_numbers", none)))) := He.eqO_ok (c.fact 0 30 (f := q_a15) rfl rfl)
  have k15 : PySem.W.keepIn K (.ref (He.fAd K ("place_numbers", none))) = true := c.fact 0 31 (f := q_k15) rfl rfl
  have a16 : PySem.W.nsIn K mainGlobals "press" = some (some (.ref (He.fAd K ("press", none)))) := He.eqO_ok (c.fact 0 32 (f := q_a16) rfl rfl)
  have k16 : PySem.W.keepIn K (.ref (He.fAd K ("press", none))) = true := c.fact 0 33 (f := q_k16) rfl rfl
  have a17 : PySem.W.nsIn K mainGlobals "turned_letters" = some (some (.ref (He.fAd K ("turned_letters", none)))) := He.eqO_ok (c.fact 0 34 (f := q_a17) rfl rfl)
  have k17 : PySem.W.keepIn K (.ref (He.fAd K ("turned_letters", none))) = true := c.fact 0 35 (f := q_k17) rfl rfl
  have a18 : PySem.W.nsIn K mainGlobals "_law_whole" = some (some (.ref (He.fAd K ("_law_whole", none)))) := He.eqO_ok (c.fact 0 36 (f := q_a18) rfl rfl)
  have k18 : PySem.W.keepIn K (.ref (He.fAd K ("_law_whole", none))) = true := c.fact 0 37 (f := q_k18) rfl rfl
  have a19 : PySem.W.nsIn K mainGlobals "_law_cell" = some (some (.ref (He.fAd K ("_law_cell", none)))) := He.eqO_ok (c.fact 0 38 (f := q_a19) rfl rfl)
  have k19 : PySem.W.keepIn K (.ref (He.fAd K ("_law_cell", none))) = true := c.fact 0 39 (f := q_k19) rfl rfl
  have a20 : PySem.W.nsIn K mainGlobals "_law_digits" = some (some (.ref (He.fAd K ("_law_digits", none)))) := He.eqO_ok (c.fact 0 40 (f := q_a20) rfl rfl)
  have k20 : PySem.W.keepIn K (.ref (He.fAd K ("_law_digits", none))) = true := c.fact 0 41 (f := q_k20) rfl rfl
  have a21 : PySem.W.nsIn K mainGlobals "_law_signs" = some (some (.ref (He.fAd K ("_law_signs", none)))) := He.eqO_ok (c.fact 0 42 (f := q_a21) rfl rfl)
  have k21 : PySem.W.keepIn K (.ref (He.fAd K ("_law_signs", none))) = true := c.fact 0 43 (f := q_k21) rfl rfl
  have a22 : PySem.W.nsIn K mainGlobals "_law_free_word" = some (some (.ref (He.fAd K ("_law_free_word", none)))) := He.eqO_ok (c.fact 0 44 (f := q_a22) rfl rfl)
  have k22 : PySem.W.keepIn K (.ref (He.fAd K ("_law_free_word", none))) = true := c.fact 0 45 (f := q_k22) rfl rfl
  have a23 : PySem.W.nsIn K mainGlobals "_law_counting_word" = some (some (.ref (He.fAd K ("_law_counting_word", none)))) := He.eqO_ok (c.fact 0 46 (f := q_a23) rfl rfl)
  have k23 : PySem.W.keepIn K (.ref (He.fAd K ("_law_counting_word", none))) = true := c.fact 0 47 (f := q_k23) rfl rfl
  have a24 : PySem.W.nsIn K mainGlobals "_law_word" = some (some (.ref (He.fAd K ("_law_word", none)))) := He.eqO_ok (c.fact 0 48 (f := q_a24) rfl rfl)
  have k24 : PySem.W.keepIn K (.ref (He.fAd K ("_law_word", none))) = true := c.fact 0 49 (f := q_k24) rfl rfl
  have a25 : PySem.W.nsIn K mainGlobals "_law_long_word" = some (some (.ref (He.fAd K ("_law_long_word", none)))) := He.eqO_ok (c.fact 0 50 (f := q_a25) rfl rfl)
  have k25 : PySem.W.keepIn K (.ref (He.fAd K ("_law_long_word", none))) = true := c.fact 0 51 (f := q_k25) rfl rfl
  have a26 : PySem.W.nsIn K mainGlobals "_law_cut" = some (some (.ref (He.fAd K ("_law_cut", none)))) := He.eqO_ok (c.fact 0 52 (f := q_a26) rfl rfl)
  have k26 : PySem.W.keepIn K (.ref (He.fAd K ("_law_cut", none))) = true := c.fact 0 53 (f := q_k26) rfl rfl
  have a27 : PySem.W.nsIn K mainGlobals "_law_width" = some (some (.ref (He.fAd K ("_law_width", none)))) := He.eqO_ok (c.fact 0 54 (f := q_a27) rfl rfl)
  have k27 : PySem.W.keepIn K (.ref (He.fAd K ("_law_width", none))) = true := c.fact 0 55 (f := q_k27) rfl rfl
  have a28 : PySem.W.nsIn K mainGlobals "_law_number" = some (some (.ref (He.fAd K ("_law_number", none)))) := He.eqO_ok (c.fact 0 56 (f := q_a28) rfl rfl)
  have k28 : PySem.W.keepIn K (.ref (He.fAd K ("_law_number", none))) = true := c.fact 0 57 (f := q_k28) rfl rfl
  have a29 : PySem.W.nsIn K mainGlobals "_law_numbers" = some (some (.ref (He.fAd K ("_law_numbers", none)))) := He.eqO_ok (c.fact 0 58 (f := q_a29) rfl rfl)
  have k29 : PySem.W.keepIn K (.ref (He.fAd K ("_law_numbers", none))) = true := c.fact 0 59 (f := q_k29) rfl rfl
  have a30 : PySem.W.nsIn K mainGlobals "_law_many_numbers" = some (some (.ref (He.fAd K ("_law_many_numbers", none)))) := He.eqO_ok (c.fact 0 60 (f := q_a30) rfl rfl)
  have k30 : PySem.W.keepIn K (.ref (He.fAd K ("_law_many_numbers", none))) = true := c.fact 0 61 (f := q_k30) rfl rfl
  have a31 : PySem.W.nsIn K mainGlobals "_law_wider" = some (some (.ref (He.fAd K ("_law_wider", none)))) := He.eqO_ok (c.fact 1 0 (f := q_a31) rfl rfl)
  have k31 : PySem.W.keepIn K (.ref (He.fAd K ("_law_wider", none))) = true := c.fact 1 1 (f := q_k31) rfl rfl
  have a32 : PySem.W.nsIn K mainGlobals "_law_spoilt" = some (some (.ref (He.fAd K ("_law_spoilt", none)))) := He.eqO_ok (c.fact 1 2 (f := q_a32) rfl rfl)
  have k32 : PySem.W.keepIn K (.ref (He.fAd K ("_law_spoilt", none))) = true := c.fact 1 3 (f := q_k32) rfl rfl
  have a33 : PySem.W.nsIn K mainGlobals "_law_no_signs" = some (some (.ref (He.fAd K ("_law_no_signs", none)))) := He.eqO_ok (c.fact 1 4 (f := q_a33) rfl rfl)
  have k33 : PySem.W.keepIn K (.ref (He.fAd K ("_law_no_signs", none))) = true := c.fact 1 5 (f := q_k33) rfl rfl
  have a34 : PySem.W.nsIn K mainGlobals "_law_first_strange" = some (some (.ref (He.fAd K ("_law_first_strange", none)))) := He.eqO_ok (c.fact 1 6 (f := q_a34) rfl rfl)
  have k34 : PySem.W.keepIn K (.ref (He.fAd K ("_law_first_strange", none))) = true := c.fact 1 7 (f := q_k34) rfl rfl
  have a35 : PySem.W.nsIn K mainGlobals "_law_kin" = some (some (.ref (He.fAd K ("_law_kin", none)))) := He.eqO_ok (c.fact 1 8 (f := q_a35) rfl rfl)
  have k35 : PySem.W.keepIn K (.ref (He.fAd K ("_law_kin", none))) = true := c.fact 1 9 (f := q_k35) rfl rfl
  have a36 : PySem.W.nsIn K mainGlobals "_law_answer" = some (some (.ref (He.fAd K ("_law_answer", none)))) := He.eqO_ok (c.fact 1 10 (f := q_a36) rfl rfl)
  have k36 : PySem.W.keepIn K (.ref (He.fAd K ("_law_answer", none))) = true := c.fact 1 11 (f := q_k36) rfl rfl
  have a37 : PySem.W.nsIn K mainGlobals "_law_judged" = some (some (.ref (He.fAd K ("_law_judged", none)))) := He.eqO_ok (c.fact 1 12 (f := q_a37) rfl rfl)
  have k37 : PySem.W.keepIn K (.ref (He.fAd K ("_law_judged", none))) = true := c.fact 1 13 (f := q_k37) rfl rfl
  have a38 : PySem.W.nsIn K mainGlobals "_law_refused" = some (some (.ref (He.fAd K ("_law_refused", none)))) := He.eqO_ok (c.fact 1 14 (f := q_a38) rfl rfl)
  have k38 : PySem.W.keepIn K (.ref (He.fAd K ("_law_refused", none))) = true := c.fact 1 15 (f := q_k38) rfl rfl
  have a39 : PySem.W.nsIn K mainGlobals "_law_cut_pressed" = some (some (.ref (He.fAd K ("_law_cut_pressed", none)))) := He.eqO_ok (c.fact 1 16 (f := q_a39) rfl rfl)
  have k39 : PySem.W.keepIn K (.ref (He.fAd K ("_law_cut_pressed", none))) = true := c.fact 1 17 (f := q_k39) rfl rfl
  have a40 : PySem.W.nsIn K mainGlobals "_law_beginning_pressed" = some (some (.ref (He.fAd K ("_law_beginning_pressed", none)))) := He.eqO_ok (c.fact 1 18 (f := q_a40) rfl rfl)
  have k40 : PySem.W.keepIn K (.ref (He.fAd K ("_law_beginning_pressed", none))) = true := c.fact 1 19 (f := q_k40) rfl rfl
  have a41 : PySem.W.nsIn K mainGlobals "law" = some (some (.ref (He.fAd K ("law", none)))) := He.eqO_ok (c.fact 1 20 (f := q_a41) rfl rfl)
  have k41 : PySem.W.keepIn K (.ref (He.fAd K ("law", none))) = true := c.fact 1 21 (f := q_k41) rfl rfl
  have hn_get : PySem.W.specialIn K (.builtin "object.__class__") "__get__" = some (some (.builtin "getset_descriptor.__get__")) := He.eqO_ok (c.fact 1 22 (f := q_hn_get) rfl rfl)
  have ht_get : PySem.W.takesIn K (.builtin "object.__class__") = some true := obB_ok (c.fact 1 23 (f := q_ht_get) rfl rfl)
  have aE_PressError : PySem.W.nsIn K mainGlobals "PressError" = some (some (.ref (He.ga K "PressError"))) := He.eqO_ok (c.fact 1 24 (f := q_aE_PressError) rfl rfl)
  have aE_BadAlphabet : PySem.W.nsIn K mainGlobals "BadAlphabet" = some (some (.ref (He.ga K "BadAlphabet"))) := He.eqO_ok (c.fact 1 25 (f := q_aE_BadAlphabet) rfl rfl)
  have aE_BadLetter : PySem.W.nsIn K mainGlobals "BadLetter" = some (some (.ref (He.ga K "BadLetter"))) := He.eqO_ok (c.fact 1 26 (f := q_aE_BadLetter) rfl rfl)
  have aE_BadRow : PySem.W.nsIn K mainGlobals "BadRow" = some (some (.ref (He.ga K "BadRow"))) := He.eqO_ok (c.fact 1 27 (f := q_aE_BadRow) rfl rfl)
  have aE_BadTail : PySem.W.nsIn K mainGlobals "BadTail" = some (some (.ref (He.ga K "BadTail"))) := He.eqO_ok (c.fact 1 28 (f := q_aE_BadTail) rfl rfl)
  have aE_BadRank : PySem.W.nsIn K mainGlobals "BadRank" = some (some (.ref (He.ga K "BadRank"))) := He.eqO_ok (c.fact 1 29 (f := q_aE_BadRank) rfl rfl)
  have aE_NotBits : PySem.W.nsIn K mainGlobals "NotBits" = some (some (.ref (He.ga K "NotBits"))) := He.eqO_ok (c.fact 1 30 (f := q_aE_NotBits) rfl rfl)
  have aE_BadIndex : PySem.W.nsIn K mainGlobals "BadIndex" = some (some (.ref (He.ga K "BadIndex"))) := He.eqO_ok (c.fact 1 31 (f := q_aE_BadIndex) rfl rfl)
  have aE_BadStanding : PySem.W.nsIn K mainGlobals "BadStanding" = some (some (.ref (He.ga K "BadStanding"))) := He.eqO_ok (c.fact 1 32 (f := q_aE_BadStanding) rfl rfl)
  have aE_BadRule : PySem.W.nsIn K mainGlobals "BadRule" = some (some (.ref (He.ga K "BadRule"))) := He.eqO_ok (c.fact 1 33 (f := q_aE_BadRule) rfl rfl)
  have aE_AlphabetsDiffer : PySem.W.nsIn K mainGlobals "AlphabetsDiffer" = some (some (.ref (He.ga K "AlphabetsDiffer"))) := He.eqO_ok (c.fact 1 34 (f := q_aE_AlphabetsDiffer) rfl rfl)
  have aE_DoesNotComeBack : PySem.W.nsIn K mainGlobals "DoesNotComeBack" = some (some (.ref (He.ga K "DoesNotComeBack"))) := He.eqO_ok (c.fact 1 35 (f := q_aE_DoesNotComeBack) rfl rfl)
  have aE_TooLarge : PySem.W.nsIn K mainGlobals "TooLarge" = some (some (.ref (He.ga K "TooLarge"))) := He.eqO_ok (c.fact 1 36 (f := q_aE_TooLarge) rfl rfl)
  have aE_NotWritten : PySem.W.nsIn K mainGlobals "NotWritten" = some (some (.ref (He.ga K "NotWritten"))) := He.eqO_ok (c.fact 1 37 (f := q_aE_NotWritten) rfl rfl)
  have aE_NoSuchText : PySem.W.nsIn K mainGlobals "NoSuchText" = some (some (.ref (He.ga K "NoSuchText"))) := He.eqO_ok (c.fact 1 38 (f := q_aE_NoSuchText) rfl rfl)
  have aE_BadName : PySem.W.nsIn K mainGlobals "BadName" = some (some (.ref (He.ga K "BadName"))) := He.eqO_ok (c.fact 1 39 (f := q_aE_BadName) rfl rfl)
  have aE_NameTaken : PySem.W.nsIn K mainGlobals "NameTaken" = some (some (.ref (He.ga K "NameTaken"))) := He.eqO_ok (c.fact 1 40 (f := q_aE_NameTaken) rfl rfl)
  have aE_NoName : PySem.W.nsIn K mainGlobals "NoName" = some (some (.ref (He.ga K "NoName"))) := He.eqO_ok (c.fact 1 41 (f := q_aE_NoName) rfl rfl)
  have aE_EmptyRing : PySem.W.nsIn K mainGlobals "EmptyRing" = some (some (.ref (He.ga K "EmptyRing"))) := He.eqO_ok (c.fact 1 42 (f := q_aE_EmptyRing) rfl rfl)
  have aE_NotInLot : PySem.W.nsIn K mainGlobals "NotInLot" = some (some (.ref (He.ga K "NotInLot"))) := He.eqO_ok (c.fact 1 43 (f := q_aE_NotInLot) rfl rfl)
  have aE_BadBuild : PySem.W.nsIn K mainGlobals "BadBuild" = some (some (.ref (He.ga K "BadBuild"))) := He.eqO_ok (c.fact 1 44 (f := q_aE_BadBuild) rfl rfl)
  have aE_BadGrowth : PySem.W.nsIn K mainGlobals "BadGrowth" = some (some (.ref (He.ga K "BadGrowth"))) := He.eqO_ok (c.fact 1 45 (f := q_aE_BadGrowth) rfl rfl)
  have aE_EmptyText : PySem.W.nsIn K mainGlobals "EmptyText" = some (some (.ref (He.ga K "EmptyText"))) := He.eqO_ok (c.fact 1 46 (f := q_aE_EmptyText) rfl rfl)
  have aE_NothingToUndo : PySem.W.nsIn K mainGlobals "NothingToUndo" = some (some (.ref (He.ga K "NothingToUndo"))) := He.eqO_ok (c.fact 1 47 (f := q_aE_NothingToUndo) rfl rfl)
  have aE_NothingToRedo : PySem.W.nsIn K mainGlobals "NothingToRedo" = some (some (.ref (He.ga K "NothingToRedo"))) := He.eqO_ok (c.fact 1 48 (f := q_aE_NothingToRedo) rfl rfl)
  have ty_BadAlphabet : PySem.W.typeIn K (.ref (He.ga K "BadAlphabet")) = some (.type "type") := tyB_ok (c.fact 1 49 (f := q_ty_BadAlphabet) rfl rfl)
  have kcE_BadAlphabet : PySem.W.keepIn K (.ref (He.ga K "BadAlphabet")) = true := c.fact 1 50 (f := q_kcE_BadAlphabet) rfl rfl
  have gaE_BadAlphabet : PySem.W.findIn K (.ref (He.ga K "BadAlphabet")) "__getattribute__" = some (some (.builtin "BaseException.__getattribute__")) := He.eqO_ok (c.fact 1 51 (f := q_gaE_BadAlphabet) rfl rfl)
  have ggE_BadAlphabet : PySem.W.findIn K (.ref (He.ga K "BadAlphabet")) "__getattr__" = some none := He.eqO_ok (c.fact 1 52 (f := q_ggE_BadAlphabet) rfl rfl)
  have sbE_BadAlphabet : PySem.W.subIn K (.ref (He.ga K "BadAlphabet")) (.type "BaseException") = some true := obB_ok (c.fact 1 53 (f := q_sbE_BadAlphabet) rfl rfl)
  have hdE_BadAlphabet : PySem.W.hasDictIn K (He.ga K "BadAlphabet") = true := c.fact 1 54 (f := q_hdE_BadAlphabet) rfl rfl
  have caE_BadAlphabet : PySem.W.findIn K (.ref (He.ga K "BadAlphabet")) "__class__" = some (some (.builtin "object.__class__")) := He.eqO_ok (c.fact 1 55 (f := q_caE_BadAlphabet) rfl rfl)
  have mrE_BadAlphabet : PySem.W.mroIn K (He.ga K "BadAlphabet") (.type "object") = some true := obB_ok (c.fact 1 56 (f := q_mrE_BadAlphabet) rfl rfl)
  obtain ⟨_, _, _, _, _, _, _, _, _, _, _, _, _, _, _, xL_BadAlphabet, hb_BadAlphabet⟩ := xcB_ok (c.fact 1 57 (f := q_xL_BadAlphabet) rfl rfl)
  have saE_BadAlphabet : PySem.W.findIn K (.ref (He.ga K "BadAlphabet")) "__setattr__" = some (some (.builtin "object.__setattr__")) := He.eqO_ok (c.fact 1 58 (f := q_saE_BadAlphabet) rfl rfl)
  have iE_BadAlphabet : PySem.W.findIn K (.ref (He.ga K "BadAlphabet")) "__init__" = some (some (.ref (He.fAd K ("BadAlphabet", some "__init__")))) := He.eqO_ok (c.fact 1 59 (f := q_iE_BadAlphabet) rfl rfl)
  have tiE_BadAlphabet : PySem.W.typeIn K (.ref (He.fAd K ("BadAlphabet", some "__init__"))) = some (.type "function") := tyB_ok (c.fact 1 60 (f := q_tiE_BadAlphabet) rfl rfl)
  have kpE_BadAlphabet : PySem.W.keepIn K (.ref (He.fAd K ("BadAlphabet", some "__init__"))) = true := c.fact 1 61 (f := q_kpE_BadAlphabet) rfl rfl
  have nfE_BadAlphabet_alphabet : PySem.W.findIn K (.ref (He.ga K "BadAlphabet")) "alphabet" = some none := He.eqO_ok (c.fact 2 0 (f := q_nfE_BadAlphabet_alphabet) rfl rfl)
  have kt_BadAlphabet_PressError : PySem.W.kitOne K (.ref (He.ga K "BadAlphabet")) (.ref (He.ga K "PressError")) = some true := obB_ok (c.fact 2 1 (f := q_kt_BadAlphabet_PressError) rfl rfl)
  have kt_BadAlphabet_BadAlphabet : PySem.W.kitOne K (.ref (He.ga K "BadAlphabet")) (.ref (He.ga K "BadAlphabet")) = some true := obB_ok (c.fact 2 2 (f := q_kt_BadAlphabet_BadAlphabet) rfl rfl)
  have kt_BadAlphabet_BadLetter : PySem.W.kitOne K (.ref (He.ga K "BadAlphabet")) (.ref (He.ga K "BadLetter")) = some false := obB_ok (c.fact 2 3 (f := q_kt_BadAlphabet_BadLetter) rfl rfl)
  have kt_BadAlphabet_BadRow : PySem.W.kitOne K (.ref (He.ga K "BadAlphabet")) (.ref (He.ga K "BadRow")) = some false := obB_ok (c.fact 2 4 (f := q_kt_BadAlphabet_BadRow) rfl rfl)
  have kt_BadAlphabet_BadTail : PySem.W.kitOne K (.ref (He.ga K "BadAlphabet")) (.ref (He.ga K "BadTail")) = some false := obB_ok (c.fact 2 5 (f := q_kt_BadAlphabet_BadTail) rfl rfl)
  have kt_BadAlphabet_BadRank : PySem.W.kitOne K (.ref (He.ga K "BadAlphabet")) (.ref (He.ga K "BadRank")) = some false := obB_ok (c.fact 2 6 (f := q_kt_BadAlphabet_BadRank) rfl rfl)
  have kt_BadAlphabet_NotBits : PySem.W.kitOne K (.ref (He.ga K "BadAlphabet")) (.ref (He.ga K "NotBits")) = some false := obB_ok (c.fact 2 7 (f := q_kt_BadAlphabet_NotBits) rfl rfl)
  have kt_BadAlphabet_BadIndex : PySem.W.kitOne K (.ref (He.ga K "BadAlphabet")) (.ref (He.ga K "BadIndex")) = some false := obB_ok (c.fact 2 8 (f := q_kt_BadAlphabet_BadIndex) rfl rfl)
  have kt_BadAlphabet_BadStanding : PySem.W.kitOne K (.ref (He.ga K "BadAlphabet")) (.ref (He.ga K "BadStanding")) = some false := obB_ok (c.fact 2 9 (f := q_kt_BadAlphabet_BadStanding) rfl rfl)
  have kt_BadAlphabet_BadRule : PySem.W.kitOne K (.ref (He.ga K "BadAlphabet")) (.ref (He.ga K "BadRule")) = some false := obB_ok (c.fact 2 10 (f := q_kt_BadAlphabet_BadRule) rfl rfl)
  have kt_BadAlphabet_AlphabetsDiffer : PySem.W.kitOne K (.ref (He.ga K "BadAlphabet")) (.ref (He.ga K "AlphabetsDiffer")) = some false := obB_ok (c.fact 2 11 (f := q_kt_BadAlphabet_AlphabetsDiffer) rfl rfl)
  have kt_BadAlphabet_DoesNotComeBack : PySem.W.kitOne K (.ref (He.ga K "BadAlphabet")) (.ref (He.ga K "DoesNotComeBack")) = some false := obB_ok (c.fact 2 12 (f := q_kt_BadAlphabet_DoesNotComeBack) rfl rfl)
  have kt_BadAlphabet_TooLarge : PySem.W.kitOne K (.ref (He.ga K "BadAlphabet")) (.ref (He.ga K "TooLarge")) = some false := obB_ok (c.fact 2 13 (f := q_kt_BadAlphabet_TooLarge) rfl rfl)
  have kt_BadAlphabet_NotWritten : PySem.W.kitOne K (.ref (He.ga K "BadAlphabet")) (.ref (He.ga K "NotWritten")) = some false := obB_ok (c.fact 2 14 (f := q_kt_BadAlphabet_NotWritten) rfl rfl)
  have kt_BadAlphabet_NoSuchText : PySem.W.kitOne K (.ref (He.ga K "BadAlphabet")) (.ref (He.ga K "NoSuchText")) = some false := obB_ok (c.fact 2 15 (f := q_kt_BadAlphabet_NoSuchText) rfl rfl)
  have kt_BadAlphabet_BadName : PySem.W.kitOne K (.ref (He.ga K "BadAlphabet")) (.ref (He.ga K "BadName")) = some false := obB_ok (c.fact 2 16 (f := q_kt_BadAlphabet_BadName) rfl rfl)
  have kt_BadAlphabet_NameTaken : PySem.W.kitOne K (.ref (He.ga K "BadAlphabet")) (.ref (He.ga K "NameTaken")) = some false := obB_ok (c.fact 2 17 (f := q_kt_BadAlphabet_NameTaken) rfl rfl)
  have kt_BadAlphabet_NoName : PySem.W.kitOne K (.ref (He.ga K "BadAlphabet")) (.ref (He.ga K "NoName")) = some false := obB_ok (c.fact 2 18 (f := q_kt_BadAlphabet_NoName) rfl rfl)
  have kt_BadAlphabet_EmptyRing : PySem.W.kitOne K (.ref (He.ga K "BadAlphabet")) (.ref (He.ga K "EmptyRing")) = some false := obB_ok (c.fact 2 19 (f := q_kt_BadAlphabet_EmptyRing) rfl rfl)
  have kt_BadAlphabet_NotInLot : PySem.W.kitOne K (.ref (He.ga K "BadAlphabet")) (.ref (He.ga K "NotInLot")) = some false := obB_ok (c.fact 2 20 (f := q_kt_BadAlphabet_NotInLot) rfl rfl)
  have kt_BadAlphabet_BadBuild : PySem.W.kitOne K (.ref (He.ga K "BadAlphabet")) (.ref (He.ga K "BadBuild")) = some false := obB_ok (c.fact 2 21 (f := q_kt_BadAlphabet_BadBuild) rfl rfl)
  have kt_BadAlphabet_BadGrowth : PySem.W.kitOne K (.ref (He.ga K "BadAlphabet")) (.ref (He.ga K "BadGrowth")) = some false := obB_ok (c.fact 2 22 (f := q_kt_BadAlphabet_BadGrowth) rfl rfl)
  have kt_BadAlphabet_EmptyText : PySem.W.kitOne K (.ref (He.ga K "BadAlphabet")) (.ref (He.ga K "EmptyText")) = some false := obB_ok (c.fact 2 23 (f := q_kt_BadAlphabet_EmptyText) rfl rfl)
  have kt_BadAlphabet_NothingToUndo : PySem.W.kitOne K (.ref (He.ga K "BadAlphabet")) (.ref (He.ga K "NothingToUndo")) = some false := obB_ok (c.fact 2 24 (f := q_kt_BadAlphabet_NothingToUndo) rfl rfl)
  have kt_BadAlphabet_NothingToRedo : PySem.W.kitOne K (.ref (He.ga K "BadAlphabet")) (.ref (He.ga K "NothingToRedo")) = some false := obB_ok (c.fact 2 25 (f := q_kt_BadAlphabet_NothingToRedo) rfl rfl)
  have kt_BadAlphabet_VE : PySem.W.kitOne K (.ref (He.ga K "BadAlphabet")) (.type "ValueError") = some true := obB_ok (c.fact 2 26 (f := q_kt_BadAlphabet_VE) rfl rfl)
  have ex_BadAlphabet_PressError : PySem.W.exmOne K (.ref (He.ga K "BadAlphabet")) (.ref (He.ga K "PressError")) = some true := obB_ok (c.fact 2 27 (f := q_ex_BadAlphabet_PressError) rfl rfl)
  have ty_BadLetter : PySem.W.typeIn K (.ref (He.ga K "BadLetter")) = some (.type "type") := tyB_ok (c.fact 2 28 (f := q_ty_BadLetter) rfl rfl)
  have kcE_BadLetter : PySem.W.keepIn K (.ref (He.ga K "BadLetter")) = true := c.fact 2 29 (f := q_kcE_BadLetter) rfl rfl
  have gaE_BadLetter : PySem.W.findIn K (.ref (He.ga K "BadLetter")) "__getattribute__" = some (some (.builtin "BaseException.__getattribute__")) := He.eqO_ok (c.fact 2 30 (f := q_gaE_BadLetter) rfl rfl)
  have ggE_BadLetter : PySem.W.findIn K (.ref (He.ga K "BadLetter")) "__getattr__" = some none := He.eqO_ok (c.fact 2 31 (f := q_ggE_BadLetter) rfl rfl)
  have sbE_BadLetter : PySem.W.subIn K (.ref (He.ga K "BadLetter")) (.type "BaseException") = some true := obB_ok (c.fact 2 32 (f := q_sbE_BadLetter) rfl rfl)
  have hdE_BadLetter : PySem.W.hasDictIn K (He.ga K "BadLetter") = true := c.fact 2 33 (f := q_hdE_BadLetter) rfl rfl
  have caE_BadLetter : PySem.W.findIn K (.ref (He.ga K "BadLetter")) "__class__" = some (some (.builtin "object.__class__")) := He.eqO_ok (c.fact 2 34 (f := q_caE_BadLetter) rfl rfl)
  have mrE_BadLetter : PySem.W.mroIn K (He.ga K "BadLetter") (.type "object") = some true := obB_ok (c.fact 2 35 (f := q_mrE_BadLetter) rfl rfl)
  obtain ⟨_, _, _, _, _, _, _, _, _, _, _, _, _, _, _, xL_BadLetter, hb_BadLetter⟩ := xcB_ok (c.fact 2 36 (f := q_xL_BadLetter) rfl rfl)
  have saE_BadLetter : PySem.W.findIn K (.ref (He.ga K "BadLetter")) "__setattr__" = some (some (.builtin "object.__setattr__")) := He.eqO_ok (c.fact 2 37 (f := q_saE_BadLetter) rfl rfl)
  have iE_BadLetter : PySem.W.findIn K (.ref (He.ga K "BadLetter")) "__init__" = some (some (.ref (He.fAd K ("BadLetter", some "__init__")))) := He.eqO_ok (c.fact 2 38 (f := q_iE_BadLetter) rfl rfl)
  have tiE_BadLetter : PySem.W.typeIn K (.ref (He.fAd K ("BadLetter", some "__init__"))) = some (.type "function") := tyB_ok (c.fact 2 39 (f := q_tiE_BadLetter) rfl rfl)
  have kpE_BadLetter : PySem.W.keepIn K (.ref (He.fAd K ("BadLetter", some "__init__"))) = true := c.fact 2 40 (f := q_kpE_BadLetter) rfl rfl
  have nfE_BadLetter_index : PySem.W.findIn K (.ref (He.ga K "BadLetter")) "index" = some none := He.eqO_ok (c.fact 2 41 (f := q_nfE_BadLetter_index) rfl rfl)
  have kt_BadLetter_PressError : PySem.W.kitOne K (.ref (He.ga K "BadLetter")) (.ref (He.ga K "PressError")) = some true := obB_ok (c.fact 2 42 (f := q_kt_BadLetter_PressError) rfl rfl)
  have kt_BadLetter_BadAlphabet : PySem.W.kitOne K (.ref (He.ga K "BadLetter")) (.ref (He.ga K "BadAlphabet")) = some false := obB_ok (c.fact 2 43 (f := q_kt_BadLetter_BadAlphabet) rfl rfl)
  have kt_BadLetter_BadLetter : PySem.W.kitOne K (.ref (He.ga K "BadLetter")) (.ref (He.ga K "BadLetter")) = some true := obB_ok (c.fact 2 44 (f := q_kt_BadLetter_BadLetter) rfl rfl)
  have kt_BadLetter_BadRow : PySem.W.kitOne K (.ref (He.ga K "BadLetter")) (.ref (He.ga K "BadRow")) = some false := obB_ok (c.fact 2 45 (f := q_kt_BadLetter_BadRow) rfl rfl)
  have kt_BadLetter_BadTail : PySem.W.kitOne K (.ref (He.ga K "BadLetter")) (.ref (He.ga K "BadTail")) = some false := obB_ok (c.fact 2 46 (f := q_kt_BadLetter_BadTail) rfl rfl)
  have kt_BadLetter_BadRank : PySem.W.kitOne K (.ref (He.ga K "BadLetter")) (.ref (He.ga K "BadRank")) = some false := obB_ok (c.fact 2 47 (f := q_kt_BadLetter_BadRank) rfl rfl)
  have kt_BadLetter_NotBits : PySem.W.kitOne K (.ref (He.ga K "BadLetter")) (.ref (He.ga K "NotBits")) = some false := obB_ok (c.fact 2 48 (f := q_kt_BadLetter_NotBits) rfl rfl)
  have kt_BadLetter_BadIndex : PySem.W.kitOne K (.ref (He.ga K "BadLetter")) (.ref (He.ga K "BadIndex")) = some false := obB_ok (c.fact 2 49 (f := q_kt_BadLetter_BadIndex) rfl rfl)
  have kt_BadLetter_BadStanding : PySem.W.kitOne K (.ref (He.ga K "BadLetter")) (.ref (He.ga K "BadStanding")) = some false := obB_ok (c.fact 2 50 (f := q_kt_BadLetter_BadStanding) rfl rfl)
  have kt_BadLetter_BadRule : PySem.W.kitOne K (.ref (He.ga K "BadLetter")) (.ref (He.ga K "BadRule")) = some false := obB_ok (c.fact 2 51 (f := q_kt_BadLetter_BadRule) rfl rfl)
  have kt_BadLetter_AlphabetsDiffer : PySem.W.kitOne K (.ref (He.ga K "BadLetter")) (.ref (He.ga K "AlphabetsDiffer")) = some false := obB_ok (c.fact 2 52 (f := q_kt_BadLetter_AlphabetsDiffer) rfl rfl)
  have kt_BadLetter_DoesNotComeBack : PySem.W.kitOne K (.ref (He.ga K "BadLetter")) (.ref (He.ga K "DoesNotComeBack")) = some false := obB_ok (c.fact 2 53 (f := q_kt_BadLetter_DoesNotComeBack) rfl rfl)
  have kt_BadLetter_TooLarge : PySem.W.kitOne K (.ref (He.ga K "BadLetter")) (.ref (He.ga K "TooLarge")) = some false := obB_ok (c.fact 2 54 (f := q_kt_BadLetter_TooLarge) rfl rfl)
  have kt_BadLetter_NotWritten : PySem.W.kitOne K (.ref (He.ga K "BadLetter")) (.ref (He.ga K "NotWritten")) = some false := obB_ok (c.fact 2 55 (f := q_kt_BadLetter_NotWritten) rfl rfl)
  have kt_BadLetter_NoSuchText : PySem.W.kitOne K (.ref (He.ga K "BadLetter")) (.ref (He.ga K "NoSuchText")) = some false := obB_ok (c.fact 2 56 (f := q_kt_BadLetter_NoSuchText) rfl rfl)
  have kt_BadLetter_BadName : PySem.W.kitOne K (.ref (He.ga K "BadLetter")) (.ref (He.ga K "BadName")) = some false := obB_ok (c.fact 2 57 (f := q_kt_BadLetter_BadName) rfl rfl)
  have kt_BadLetter_NameTaken : PySem.W.kitOne K (.ref (He.ga K "BadLetter")) (.ref (He.ga K "NameTaken")) = some false := obB_ok (c.fact 2 58 (f := q_kt_BadLetter_NameTaken) rfl rfl)
  have kt_BadLetter_NoName : PySem.W.kitOne K (.ref (He.ga K "BadLetter")) (.ref (He.ga K "NoName")) = some false := obB_ok (c.fact 2 59 (f := q_kt_BadLetter_NoName) rfl rfl)
  have kt_BadLetter_EmptyRing : PySem.W.kitOne K (.ref (He.ga K "BadLetter")) (.ref (He.ga K "EmptyRing")) = some false := obB_ok (c.fact 2 60 (f := q_kt_BadLetter_EmptyRing) rfl rfl)
  have kt_BadLetter_NotInLot : PySem.W.kitOne K (.ref (He.ga K "BadLetter")) (.ref (He.ga K "NotInLot")) = some false := obB_ok (c.fact 2 61 (f := q_kt_BadLetter_NotInLot) rfl rfl)
  have kt_BadLetter_BadBuild : PySem.W.kitOne K (.ref (He.ga K "BadLetter")) (.ref (He.ga K "BadBuild")) = some false := obB_ok (c.fact 3 0 (f := q_kt_BadLetter_BadBuild) rfl rfl)
  have kt_BadLetter_BadGrowth : PySem.W.kitOne K (.ref (He.ga K "BadLetter")) (.ref (He.ga K "BadGrowth")) = some false := obB_ok (c.fact 3 1 (f := q_kt_BadLetter_BadGrowth) rfl rfl)
  have kt_BadLetter_EmptyText : PySem.W.kitOne K (.ref (He.ga K "BadLetter")) (.ref (He.ga K "EmptyText")) = some false := obB_ok (c.fact 3 2 (f := q_kt_BadLetter_EmptyText) rfl rfl)
  have kt_BadLetter_NothingToUndo : PySem.W.kitOne K (.ref (He.ga K "BadLetter")) (.ref (He.ga K "NothingToUndo")) = some false := obB_ok (c.fact 3 3 (f := q_kt_BadLetter_NothingToUndo) rfl rfl)
  have kt_BadLetter_NothingToRedo : PySem.W.kitOne K (.ref (He.ga K "BadLetter")) (.ref (He.ga K "NothingToRedo")) = some false := obB_ok (c.fact 3 4 (f := q_kt_BadLetter_NothingToRedo) rfl rfl)
  have kt_BadLetter_VE : PySem.W.kitOne K (.ref (He.ga K "BadLetter")) (.type "ValueError") = some true := obB_ok (c.fact 3 5 (f := q_kt_BadLetter_VE) rfl rfl)
  have ex_BadLetter_PressError : PySem.W.exmOne K (.ref (He.ga K "BadLetter")) (.ref (He.ga K "PressError")) = some true := obB_ok (c.fact 3 6 (f := q_ex_BadLetter_PressError) rfl rfl)
  have aC_Cut : PySem.W.nsIn K mainGlobals "Cut" = some (some (.ref (He.ga K "Cut"))) := He.eqO_ok (c.fact 3 7 (f := q_aC_Cut) rfl rfl)
  have pg_Cut : PySem.W.plainGet K (He.ga K "Cut") Str.empty = true := c.fact 3 8 (f := q_pg_Cut) rfl rfl
  have hd_Cut : PySem.W.hasDictIn K (He.ga K "Cut") = true := c.fact 3 9 (f := q_hd_Cut) rfl rfl
  have po_Cut : PySem.W.plainOver K (He.ga K "Cut") = true := c.fact 3 10 (f := q_po_Cut) rfl rfl
  have sa_Cut : PySem.W.findIn K (.ref (He.ga K "Cut")) "__setattr__" = some (some (.builtin "object.__setattr__")) := He.eqO_ok (c.fact 3 11 (f := q_sa_Cut) rfl rfl)
  have mk_Cut : PySem.W.makesIn K (He.ga K "Cut") = true := c.fact 3 12 (f := q_mk_Cut) rfl rfl
  have kc_Cut : PySem.W.keepIn K (.ref (He.ga K "Cut")) = true := c.fact 3 13 (f := q_kc_Cut) rfl rfl
  have n_Cut_alphabet : PySem.W.findIn K (.ref (He.ga K "Cut")) "alphabet" = some none := He.eqO_ok (c.fact 3 14 (f := q_n_Cut_alphabet) rfl rfl)
  have n_Cut_rows : PySem.W.findIn K (.ref (He.ga K "Cut")) "rows" = some none := He.eqO_ok (c.fact 3 15 (f := q_n_Cut_rows) rfl rfl)
  have n_Cut_tail : PySem.W.findIn K (.ref (He.ga K "Cut")) "tail" = some none := He.eqO_ok (c.fact 3 16 (f := q_n_Cut_tail) rfl rfl)
  have n_Cut_pieces : PySem.W.findIn K (.ref (He.ga K "Cut")) "pieces" = some none := He.eqO_ok (c.fact 3 17 (f := q_n_Cut_pieces) rfl rfl)
  have n_Cut_many : PySem.W.findIn K (.ref (He.ga K "Cut")) "many" = some none := He.eqO_ok (c.fact 3 18 (f := q_n_Cut_many) rfl rfl)
  have n_Cut_text : PySem.W.findIn K (.ref (He.ga K "Cut")) "text" = some none := He.eqO_ok (c.fact 3 19 (f := q_n_Cut_text) rfl rfl)
  have n_Cut_starts : PySem.W.findIn K (.ref (He.ga K "Cut")) "starts" = some none := He.eqO_ok (c.fact 3 20 (f := q_n_Cut_starts) rfl rfl)
  have aC_Round : PySem.W.nsIn K mainGlobals "Round" = some (some (.ref (He.ga K "Round"))) := He.eqO_ok (c.fact 3 21 (f := q_aC_Round) rfl rfl)
  have pg_Round : PySem.W.plainGet K (He.ga K "Round") Str.empty = true := c.fact 3 22 (f := q_pg_Round) rfl rfl
  have hd_Round : PySem.W.hasDictIn K (He.ga K "Round") = true := c.fact 3 23 (f := q_hd_Round) rfl rfl
  have po_Round : PySem.W.plainOver K (He.ga K "Round") = true := c.fact 3 24 (f := q_po_Round) rfl rfl
  have sa_Round : PySem.W.findIn K (.ref (He.ga K "Round")) "__setattr__" = some (some (.builtin "object.__setattr__")) := He.eqO_ok (c.fact 3 25 (f := q_sa_Round) rfl rfl)
  have mk_Round : PySem.W.makesIn K (He.ga K "Round") = true := c.fact 3 26 (f := q_mk_Round) rfl rfl
  have kc_Round : PySem.W.keepIn K (.ref (He.ga K "Round")) = true := c.fact 3 27 (f := q_kc_Round) rfl rfl
  have n_Round_alphabet : PySem.W.findIn K (.ref (He.ga K "Round")) "alphabet" = some none := He.eqO_ok (c.fact 3 28 (f := q_n_Round_alphabet) rfl rfl)
  have n_Round_head : PySem.W.findIn K (.ref (He.ga K "Round")) "head" = some none := He.eqO_ok (c.fact 3 29 (f := q_n_Round_head) rfl rfl)
  have n_Round_ring : PySem.W.findIn K (.ref (He.ga K "Round")) "ring" = some none := He.eqO_ok (c.fact 3 30 (f := q_n_Round_ring) rfl rfl)
  have n_Round_variety : PySem.W.findIn K (.ref (He.ga K "Round")) "variety" = some none := He.eqO_ok (c.fact 3 31 (f := q_n_Round_variety) rfl rfl)
  have a42 : PySem.W.findIn K (.ref (He.ga K "Cut")) "__init__" = some (some (.ref (He.fAd K ("Cut", some "__init__")))) := He.eqO_ok (c.fact 3 32 (f := q_a42) rfl rfl)
  have i42 : PySem.W.isFn K (.ref (He.fAd K ("Cut", some "__init__"))) = true := c.fact 3 33 (f := q_i42) rfl rfl
  have k42 : PySem.W.keepIn K (.ref (He.fAd K ("Cut", some "__init__"))) = true := c.fact 3 34 (f := q_k42) rfl rfl
  have a43 : PySem.W.findIn K (.ref (He.ga K "Round")) "__init__" = some (some (.ref (He.fAd K ("Round", some "__init__")))) := He.eqO_ok (c.fact 3 35 (f := q_a43) rfl rfl)
  have i43 : PySem.W.isFn K (.ref (He.fAd K ("Round", some "__init__"))) = true := c.fact 3 36 (f := q_i43) rfl rfl
  have k43 : PySem.W.keepIn K (.ref (He.fAd K ("Round", some "__init__"))) = true := c.fact 3 37 (f := q_k43) rfl rfl
  have a44 : PySem.W.findIn K (.ref (He.ga K "Round")) "beginning" = some (some (.ref (He.fAd K ("Round", some "beginning")))) := He.eqO_ok (c.fact 3 38 (f := q_a44) rfl rfl)
  have i44 : PySem.W.isFn K (.ref (He.fAd K ("Round", some "beginning"))) = true := c.fact 3 39 (f := q_i44) rfl rfl
  have k44 : PySem.W.keepIn K (.ref (He.fAd K ("Round", some "beginning"))) = true := c.fact 3 40 (f := q_k44) rfl rfl
  have z_ValueError : PySem.W.nsIn K mainGlobals "ValueError" = some none := He.eqO_ok (c.fact 3 41 (f := q_z_ValueError) rfl rfl)
  have z_all : PySem.W.nsIn K mainGlobals "all" = some none := He.eqO_ok (c.fact 3 42 (f := q_z_all) rfl rfl)
  have z_bool : PySem.W.nsIn K mainGlobals "bool" = some none := He.eqO_ok (c.fact 3 43 (f := q_z_bool) rfl rfl)
  have z_enumerate : PySem.W.nsIn K mainGlobals "enumerate" = some none := He.eqO_ok (c.fact 3 44 (f := q_z_enumerate) rfl rfl)
  have z_int : PySem.W.nsIn K mainGlobals "int" = some none := He.eqO_ok (c.fact 3 45 (f := q_z_int) rfl rfl)
  have z_isinstance : PySem.W.nsIn K mainGlobals "isinstance" = some none := He.eqO_ok (c.fact 3 46 (f := q_z_isinstance) rfl rfl)
  have z_len : PySem.W.nsIn K mainGlobals "len" = some none := He.eqO_ok (c.fact 3 47 (f := q_z_len) rfl rfl)
  have z_list : PySem.W.nsIn K mainGlobals "list" = some none := He.eqO_ok (c.fact 3 48 (f := q_z_list) rfl rfl)
  have z_min : PySem.W.nsIn K mainGlobals "min" = some none := He.eqO_ok (c.fact 3 49 (f := q_z_min) rfl rfl)
  have z_range : PySem.W.nsIn K mainGlobals "range" = some none := He.eqO_ok (c.fact 3 50 (f := q_z_range) rfl rfl)
  have z_repr : PySem.W.nsIn K mainGlobals "repr" = some none := He.eqO_ok (c.fact 3 51 (f := q_z_repr) rfl rfl)
  have z_sorted : PySem.W.nsIn K mainGlobals "sorted" = some none := He.eqO_ok (c.fact 3 52 (f := q_z_sorted) rfl rfl)
  have z_str : PySem.W.nsIn K mainGlobals "str" = some none := He.eqO_ok (c.fact 3 53 (f := q_z_str) rfl rfl)
  have z_sum : PySem.W.nsIn K mainGlobals "sum" = some none := He.eqO_ok (c.fact 3 54 (f := q_z_sum) rfl rfl)
  have z_tuple : PySem.W.nsIn K mainGlobals "tuple" = some none := He.eqO_ok (c.fact 3 55 (f := q_z_tuple) rfl rfl)
  have z_zip : PySem.W.nsIn K mainGlobals "zip" = some none := He.eqO_ok (c.fact 3 56 (f := q_z_zip) rfl rfl)
  obtain ⟨_, g_LETTERS⟩ := strB_ok (c.fact 3 57 (f := q_g_LETTERS) rfl rfl)
  obtain ⟨_, g_MOST_LETTERS⟩ := intB_ok (c.fact 3 58 (f := q_g_MOST_LETTERS) rfl rfl)
  exact all_mk X G hfa a0 l0 c0 k0 a1 l1 c1 k1 a2 l2 c2 k2 a3 l3 c3 k3 a4 l4 c4 k4 a5 l5 c5 k5 a6 l6 c6 k6 a7 l7 c7 k7 a8 l8 c8 k8 a9 l9 c9 k9 a10 l10 c10 k10 a11 l11 c11 k11 a12 l12 c12 k12 a13 l13 c13 k13 a14 l14 c14 k14 a15 l15 c15 k15 a16 l16 c16 k16 a17 l17 c17 k17 a18 l18 c18 k18 a19 l19 c19 k19 a20 l20 c20 k20 a21 l21 c21 k21 a22 l22 c22 k22 a23 l23 c23 k23 a24 l24 c24 k24 a25 l25 c25 k25 a26 l26 c26 k26 a27 l27 c27 k27 a28 l28 c28 k28 a29 l29 c29 k29 a30 l30 c30 k30 a31 l31 c31 k31 a32 l32 c32 k32 a33 l33 c33 k33 a34 l34 c34 k34 a35 l35 c35 k35 a36 l36 c36 k36 a37 l37 c37 k37 a38 l38 c38 k38 a39 l39 c39 k39 a40 l40 c40 k40 a41 l41 c41 k41 hn_get ht_get aE_PressError aE_BadAlphabet aE_BadLetter aE_BadRow aE_BadTail aE_BadRank aE_NotBits aE_BadIndex aE_BadStanding aE_BadRule aE_AlphabetsDiffer aE_DoesNotComeBack aE_TooLarge aE_NotWritten aE_NoSuchText aE_BadName aE_NameTaken aE_NoName aE_EmptyRing aE_NotInLot aE_BadBuild aE_BadGrowth aE_EmptyText aE_NothingToUndo aE_NothingToRedo ty_BadAlphabet kcE_BadAlphabet gaE_BadAlphabet ggE_BadAlphabet sbE_BadAlphabet hdE_BadAlphabet caE_BadAlphabet mrE_BadAlphabet xL_BadAlphabet hb_BadAlphabet saE_BadAlphabet iE_BadAlphabet tiE_BadAlphabet lE_BadAlphabet ccE_BadAlphabet kpE_BadAlphabet nfE_BadAlphabet_alphabet kt_BadAlphabet_PressError kt_BadAlphabet_BadAlphabet kt_BadAlphabet_BadLetter kt_BadAlphabet_BadRow kt_BadAlphabet_BadTail kt_BadAlphabet_BadRank kt_BadAlphabet_NotBits kt_BadAlphabet_BadIndex kt_BadAlphabet_BadStanding kt_BadAlphabet_BadRule kt_BadAlphabet_AlphabetsDiffer kt_BadAlphabet_DoesNotComeBack kt_BadAlphabet_TooLarge kt_BadAlphabet_NotWritten kt_BadAlphabet_NoSuchText kt_BadAlphabet_BadName kt_BadAlphabet_NameTaken kt_BadAlphabet_NoName kt_BadAlphabet_EmptyRing kt_BadAlphabet_NotInLot kt_BadAlphabet_BadBuild kt_BadAlphabet_BadGrowth kt_BadAlphabet_EmptyText kt_BadAlphabet_NothingToUndo kt_BadAlphabet_NothingToRedo kt_BadAlphabet_VE ex_BadAlphabet_PressError ty_BadLetter kcE_BadLetter gaE_BadLetter ggE_BadLetter sbE_BadLetter hdE_BadLetter caE_BadLetter mrE_BadLetter xL_BadLetter hb_BadLetter saE_BadLetter iE_BadLetter tiE_BadLetter lE_BadLetter ccE_BadLetter kpE_BadLetter nfE_BadLetter_index kt_BadLetter_PressError kt_BadLetter_BadAlphabet kt_BadLetter_BadLetter kt_BadLetter_BadRow kt_BadLetter_BadTail kt_BadLetter_BadRank kt_BadLetter_NotBits kt_BadLetter_BadIndex kt_BadLetter_BadStanding kt_BadLetter_BadRule kt_BadLetter_AlphabetsDiffer kt_BadLetter_DoesNotComeBack kt_BadLetter_TooLarge kt_BadLetter_NotWritten kt_BadLetter_NoSuchText kt_BadLetter_BadName kt_BadLetter_NameTaken kt_BadLetter_NoName kt_BadLetter_EmptyRing kt_BadLetter_NotInLot kt_BadLetter_BadBuild kt_BadLetter_BadGrowth kt_BadLetter_EmptyText kt_BadLetter_NothingToUndo kt_BadLetter_NothingToRedo kt_BadLetter_VE ex_BadLetter_PressError aC_Cut pg_Cut hd_Cut po_Cut sa_Cut mk_Cut kc_Cut n_Cut_alphabet n_Cut_rows n_Cut_tail n_Cut_pieces n_Cut_many n_Cut_text n_Cut_starts aC_Round pg_Round hd_Round po_Round sa_Round mk_Round kc_Round n_Round_alphabet n_Round_head n_Round_ring n_Round_variety a42 i42 l42 c42 k42 a43 i43 l43 c43 k43 a44 i44 l44 c44 k44 z_ValueError z_all z_bool z_enumerate z_int z_isinstance z_len z_list z_min z_range z_repr z_sorted z_str z_sum z_tuple z_zip g_LETTERS g_MOST_LETTERS
end Ver
open PySem PySem.W PyProof.Rows
set_option maxRecDepth 100000 in
set_option maxHeartbeats 0 in
theorem PySem.Challenge.cw_outpressed_k03_block_whole_holds : PySem.Challenge.rw_outpressed_k03_block_whole.Holds := by
  w_on; o_law
  refine HandSHeadRun.head_any (r := Ver.RR) (q := Ver.qv) (H := Ver.hk) (ob := Ver.obT) (M := 20000) (loose := Ver.nms) (d := HandSHeadRun.topDef Ver.RR.prog 79) (kwd := []) Ver.obT_eq
    (by kernel_rfl) (fun s => by kernel_rfl) Ver.runs (by kernel_rfl) (by kernel_rfl) (by kernel_rfl) (by rfl) (by first | assumption | decide +kernel) (by decide +kernel) ⟨rfl, rfl, rfl, rfl, rfl, by decide +kernel⟩ ?hw ?hc
  case hw => w_witness2
  case hc =>
    refine Ver.walkHG (l := PySem.Challenge.rw_outpressed_k03_block_whole) (n := 63) (k := 11) (x := "script") (sp := fun _ K => Ver.spLaw K) (S := Ver.SaysH Ver.qs Ver.fns) rfl (by decide) (by kernel_rfl) ⟨rfl, by decide, by decide⟩ (fun _ _ Y => Y) ?F (fun _ K _ a ns hl _ hS => ⟨a, ns, rfl, hS, hl, fun _ => rfl⟩)
    intro w mg fa h K KX c G hmg0
    have e : (HandSHeadRun.topDef Ver.RR.prog 79).name = ("law" : PySem.Str) := by kernel_rfl
    rw [e] at hmg0
    exact Ver.facts KX c G hmg0

import PyProof.Rows.All
import Wide.All
import OpenK.AllK
import Wide.FinOn
import HandS.ForMost
import HandS.Evl
import HandS.WideBits
import HandS.IsInst
import HandS.Defaults
import HandS.StrMore
import HandS.Conv
import HandS.Walk
import HandS.FStr
import HandS.Style
import HandS.Replace
import HandS.Strs
import PyProof.FString3
import PyProof.SliceStr2
import KE.GoesEnumKw
import KE.GoesZip
import KE.LtData
import KE.GoesMore
import PyProof.EnumMake
import PyProof.Rows.StrIntSpec
import HandS.Codes
import PyProof.Rows.StrRev
import PyProof.StrLawsIn
import PyProof.StrBlock2
import HandS.DictTup
import HandS.TupLen
import PyProof.StrLawsFrom
import PyProof.Draws
import PyProof.DictMoreH
import HandS.Gcd
import Flt.RightSqrt
import HandS.Exc
import HandS.ExcOwn
import HandS.ExcInit
import HandS.ExcField
import HandS.ExcIs
import HandS.HotCalls
import HandS.TryMany
import HandS.WordsExc
import HandS.Lambda
import KE.KExcIs
import HandS.ExcValue
import HandS.OwnEq
import HandS.MakeKwOnly
import PyProof.ReprRoads
import PyProof.CollectStr
import HandS.Deep
import PyProof.MaxThree
import PyProof.ReprLen
import HandS.Head0
import HandS.Head1
import HandS.Head2
import HandS.HeadEnd
import HandS.HeadHook1
import PySem.Challenge.RW_outpressed_k00_cut_whole
set_option Elab.async false
set_option linter.all false
set_option maxRecDepth 100000
set_option maxHeartbeats 8000000
namespace Ver
open PySem PySem.Spec PyProof.Rows L2 Evl
/-! ### for over a list or a tuple -/
def iSeq (K : PySem.W.Frag) (te : TE) : TI := fun σ H R => te σ H fun x H1 => ∃ a : Addr, x = .ref a ∧ ((∃ xs, SqL K H1 a xs ∧ R (Itl K a) H1) ∨ (∃ xs, SqT K H1 a xs ∧ R (Itt K a) H1))
section
variable {X : Cx}
theorem pi_seq {tg e : Expr} {te : TE} (he : PE X e te) : PI X tg e (iSeq X.K te) := by
  refine ⟨fun pins s σ H R I h => ?_⟩
  refine thn (he.run pins s σ H _ I h) ?_
  intro v s1 got
  obtain ⟨x, H1, I1, r1, a, rfl, q⟩ := got
  cases (show v = Value.ref a from r1)
  have hd : PE X e te := he
  rcases q with ⟨xs, hs, q⟩ | ⟨xs, hs, q⟩
  · obtain ⟨its, _, p, _⟩ := I1.list hs
    refine wpAny_pyIter_list p.isList ?_
    exact pi_one (tk := s1.toks) I1 _ (turn_list a _) ⟨_, Heap.get?_push_size _ rfl, rfl, rfl⟩ q
  · obtain ⟨its, _, p, _⟩ := I1.tuple hs
    refine wpAny_pyIter_tuple (show s1.heap.IsTuple a its.toArray from p) ?_
    exact pi_one (tk := s1.toks) I1 _ (turn_tuple a _) ⟨_, Heap.get?_push_size _ rfl, rfl, rfl⟩ q
/-! ### a < b of data that are alike -/
def rLtD (K : PySem.W.Frag) : R2 := fun x y H Q => ∃ d e, Dp K H x d ∧ Dp K H y e ∧ PySem.W.alike d e = true ∧ d ≠ .none ∧ d.depth ≤ 32 ∧ Q (.bl (PySem.W.dataLt d e)) H
theorem op_ltD (hu : X.A.units + 64 < cLine) : OpR X (compareOp .Lt) (rLtD X.K) := by
  intro pins s σ H x y v u Q I rx ry h
  obtain ⟨d, e, hd, he, al, nn, dep, q⟩ := h
  obtain ⟨as, r1⟩ := Dp.reads I d x v hd rx
  obtain ⟨bs, r2⟩ := Dp.reads I e y u he ry
  have room : X.A.units + min d.depth e.depth < cLine := by
    have := Nat.min_le_left d.depth e.depth
    omega
  have k := PySem.W.rcLt_alike d e X.A s v u as bs r1 r2 al nn room
  exact k X.prog X.w X.xe _ ⟨.bl _, H, I, rfl, q⟩
/-! ### text[::-1]: some text of its signs, no longer -/
def tRevS (te : TE) : TE := fun σ H Q => te σ H fun x H1 => ∃ z : Str, x = .str z ∧ z.length ≤ sizeLine ∧ ∀ y : Str, (∀ c ∈ y.cps.toList, c ∈ z.cps.toList) → y.length ≤ z.length → Q (.str y) H1
end
end Ver
namespace Ver
def at0 (ps : List Int) (i : Nat) : Int := ps.getD i 0
/-! ### strings of bits as lists of codes -/
def bit1 (c : Nat) : Int := if c = 49 then 1 else 0
def val (l : List Nat) : Int := l.foldl (fun v c => v * 2 + bit1 c) 0
def Digs (l : List Nat) : Prop := ∀ c, c ∈ l → c = 48 ∨ c = 49
def p2 : Nat → Int
  | 0 => 1
  | n + 1 => p2 n * 2
theorem p2_pos : ∀ n, 0 < p2 n
  | 0 => by decide
  | n + 1 => by
    have h := p2_pos n
    show 0 < p2 n * 2
    omega
theorem p2_cast : ∀ n, p2 n = ((2 ^ n : Nat) : Int)
  | 0 => rfl
  | n + 1 => by
    show p2 n * 2 = _
    rw [p2_cast n, Nat.pow_succ, Int.natCast_mul]
    rfl
def valR : List Nat → Int
  | [] => 0
  | c :: r => bit1 c * p2 r.length + valR r
theorem fold_val : ∀ (l : List Nat) (a : Int), l.foldl (fun v c => v * 2 + bit1 c) a = a * p2 l.length + valR l
  | [], a => by
    show a = a * 1 + 0
    omega
  | c :: r, a => by
    show r.foldl (fun v c => v * 2 + bit1 c) (a * 2 + bit1 c) = a * (p2 r.length * 2) + (bit1 c * p2 r.length + valR r)
    rw [fold_val r, Int.add_mul]
    have e : a * 2 * p2 r.length = a * (p2 r.length * 2) := by rw [Int.mul_assoc, Int.mul_comm 2]
    rw [e]
    omega
theorem val_R (l : List Nat) : val l = valR l := by
  unfold val
  rw [fold_val l 0]
  omega
theorem valR_bound : ∀ l : List Nat, 0 ≤ valR l ∧ valR l < p2 l.length
  | [] => ⟨Int.le_refl 0, by decide⟩
  | c :: r => by
    obtain ⟨h1, h2⟩ := valR_bound r
    show 0 ≤ bit1 c * p2 r.length + valR r ∧ bit1 c * p2 r.length + valR r < p2 r.length * 2
    unfold bit1
    split
    · omega
    · omega
theorem lex_of_val : ∀ (a b : List Nat), a.length = b.length → Digs a → Digs b → valR a < valR b → a < b
  | [], [], _, _, _, h => absurd h (Int.lt_irrefl 0)
  | [], _ :: _, h, _, _, _ => nomatch h
  | _ :: _, [], h, _, _, _ => nomatch h
  | x :: r, y :: t, hl, ha, hb, hv => by
    have hl2 : r.length = t.length := Nat.succ.inj hl
    have b1 := valR_bound r
    have b2 := valR_bound t
    have hx := ha x (List.mem_cons_self ..)
    have hy := hb y (List.mem_cons_self ..)
    have hv2 : bit1 x * p2 r.length + valR r < bit1 y * p2 t.length + valR t := hv
    rw [← hl2] at hv2 b2
    rw [List.cons_lt_cons_iff]
    rcases hx with rfl | rfl
    · rcases hy with rfl | rfl
      · refine .inr ⟨rfl, lex_of_val r t hl2 (fun c h => ha c (List.mem_cons_of_mem _ h)) (fun c h => hb c (List.mem_cons_of_mem _ h)) ?_⟩
        simp only [bit1] at hv2
        omega
      · exact .inl (by decide)
    · rcases hy with rfl | rfl
      · simp only [bit1] at hv2
        simp at hv2
        omega
      · refine .inr ⟨rfl, lex_of_val r t hl2 (fun c h => ha c (List.mem_cons_of_mem _ h)) (fun c h => hb c (List.mem_cons_of_mem _ h)) ?_⟩
        simp only [bit1] at hv2
        omega
theorem valR_append : ∀ (a b : List Nat), valR (a ++ b) = valR a * p2 b.length + valR b
  | [], b => by
    show valR b = 0 * p2 b.length + valR b
    omega
  | c :: r, b => by
    have ih := valR_append r b
    show bit1 c * p2 (r ++ b).length + valR (r ++ b) = (bit1 c * p2 r.length + valR r) * p2 b.length + valR b
    have e : p2 (r ++ b).length = p2 r.length * p2 b.length := by
      rw [p2_cast, p2_cast, p2_cast, List.length_append, Nat.pow_add, Int.natCast_mul]
    rw [ih, e, Int.add_mul, Int.mul_assoc]
    omega
theorem valR_zeros : ∀ n : Nat, valR (List.replicate n 48) = 0
  | 0 => rfl
  | n + 1 => by
    show bit1 48 * p2 (List.replicate n 48).length + valR (List.replicate n 48) = 0
    rw [valR_zeros n]
    show (0 : Int) * _ + 0 = 0
    omega
def bins (n : Nat) : List Nat := (Nat.toDigits 2 n).map Char.toNat
theorem bins_ok (n : Nat) : Digs (bins n) ∧ valR (bins n) = (n : Int) := by
  induction n using Nat.strongRecOn with
  | ind n ih =>
    unfold bins
    rw [Nat.toDigits_eq_if (by decide)]
    by_cases h : n < 2
    · rw [if_pos h]
      have : n = 0 ∨ n = 1 := by omega
      rcases this with rfl | rfl
      · exact ⟨fun c hc => .inl (List.mem_singleton.mp (show c ∈ [48] from hc)), rfl⟩
      · exact ⟨fun c hc => .inr (List.mem_singleton.mp (show c ∈ [49] from hc)), rfl⟩
    · rw [if_neg h, List.map_append]
      obtain ⟨h1, h2⟩ := ih (n / 2) (by omega)
      have hm : n % 2 = 0 ∨ n % 2 = 1 := by omega
      refine ⟨fun c hc => ?_, ?_⟩
      · rcases List.mem_append.mp hc with hc | hc
        · exact h1 c hc
        · rcases hm with e | e
          · rw [e] at hc
            exact .inl (List.mem_singleton.mp (show c ∈ [48] from hc))
          · rw [e] at hc
            exact .inr (List.mem_singleton.mp (show c ∈ [49] from hc))
      · have e1 : valR (List.map Char.toNat (Nat.toDigits 2 (n / 2))) = ((n / 2 : Nat) : Int) := h2
        rw [valR_append, e1]
        rcases hm with e | e
        · rw [e]
          show ((n / 2 : Nat) : Int) * 2 + 0 = (n : Int)
          omega
        · rw [e]
          show ((n / 2 : Nat) : Int) * 2 + 1 = (n : Int)
          omega
theorem bins_len {n k : Nat} (hk : 0 < k) (h : n < 2 ^ k) : (bins n).length ≤ k := by
  unfold bins
  rw [List.length_map]
  exact (Nat.length_toDigits_le_iff (by decide) hk).mpr h
theorem bins_pos (n : Nat) : 0 < (bins n).length := by
  unfold bins
  rw [List.length_map]
  exact Nat.length_toDigits_pos
/-- n as exactly w bits -/
def nbL (n w : Nat) : List Nat := if w = 0 then [] else List.replicate (w - (bins n).length) 48 ++ bins n
structure Nb (l : List Nat) (n : Int) (w : Nat) : Prop where
  len : l.length = w
  digs : Digs l
  v : valR l = n
theorem nb_ok {n w : Nat} (h : n < 2 ^ w) : Nb (nbL n w) (n : Int) w := by
  unfold nbL
  by_cases c : w = 0
  · subst c
    have : n = 0 := by
      rw [Nat.pow_zero] at h
      omega
    subst this
    exact ⟨rfl, fun c hc => (nomatch hc), rfl⟩
  · rw [if_neg c]
    have hl := bins_len (by omega) h
    obtain ⟨h1, h2⟩ := bins_ok n
    refine ⟨?_, fun d hd => ?_, ?_⟩
    · rw [List.length_append, List.length_replicate]
      omega
    · rcases List.mem_append.mp hd with hd | hd
      · exact .inl (List.eq_of_mem_replicate hd)
      · exact h1 d hd
    · rw [valR_append, valR_zeros, h2]
      omega
end Ver
namespace Ver
open PySem PySem.Spec PyProof.Rows L2 Evl
/-! called with keywords alone -/
section
variable {X : Cx} {CX : CXT} {k : Nat} {f : Addr} {fd : FuncData} {ps ks : List Str} {sp : Sp} {E : XK} {x : Str} {p pos : Pos} {kws : List Keyword} {tk : TA} {g : List Value → List Value → List Value} {gV : List V → List V → List V}
theorem pe_callN0 (F : FnOk X.prog X.w X.K X.mg X.base CX k f fd ps sp) (room : Room k X.A) (gl : Gl X x) (at_ : X.mg x = some (.ref f)) (keep : PySem.W.keepIn X.K (.ref f) = true)
    (bd : KBn X.K fd ps 0 ks g gV) (pass : Passes CX X E) (kw : PK X kws tk)
    (named : (backToKw pos (keywordEach kws X.env)).all (·.1.isSome) = true := by rfl)
    (names : (backToKw pos (keywordEach kws X.env)).filterMap (·.1) = ks := by rfl)
    (nodebug : (x == ("__debug__" : Str)) = false := by decide)
    (plain : ((backTo pos (starEach [] X.env)).any (·.1) || (backToKw pos (keywordEach kws X.env)).any (·.1.isNone)) = false := by rfl) :
    PE X (.Call (.Name x p) [] kws pos) (tCallN 0 ks.length sp gV E tNil tk) := by
  refine ⟨fun pins s σ H Q I h => ?_⟩
  refine wpAny_Call_Name_kw (ld_glob I gl at_ ?_ nodebug)
  refine PySem.W.callWith_KW0 (h₀ := X.base) I.ok.mod.kin keep named ?_ plain
  refine thn (kw.run pos pins s σ H _ I h) ?_
  intro ws s2 got
  obtain ⟨zs, H2, I2, rz, l1, l2, q2⟩ := got
  refine ⟨I2.kIn, ?_⟩
  rw [names]
  exact run_fnN (us := []) (vs := []) F room bd pass I2 .nil rz rfl l2 q2
end
theorem E_of {H : Hp} {p : Addr} {o : HO} (h : H p = none) : Ex H (upd H p o) := Ex.new h
/-! ### calls of built-ins on values -/
section
variable {K : PySem.W.Frag} {H : Hp}
theorem rc_min {i j : Int} : RC (fun xs H Q => ∃ i j, xs = [V.int i, V.int j] ∧ Q (V.int (if j < i then j else i)) H) [.int i, .int j] H (.int (min i j)) := fun H1 _ Q q =>
  ⟨i, j, rfl, by
    have e : (if j < i then j else i) = min i j := by
      split <;> omega
    rw [e]
    exact q H1 (Ex.refl H1)⟩
theorem rc_max {i j : Int} : RC (fun xs H Q => ∃ i j, xs = [V.int i, V.int j] ∧ Q (V.int (if j > i then j else i)) H) [.int i, .int j] H (.int (max i j)) := fun H1 _ Q q =>
  ⟨i, j, rfl, by
    have e : (if j > i then j else i) = max i j := by
      split <;> omega
    rw [e]
    exact q H1 (Ex.refl H1)⟩
theorem rc_int {i : Int} : RC (fun xs H Q => (∃ i, xs = [V.int i] ∧ Q (V.int i) H) ∨ ∃ k, xs = [V.bl k] ∧ Q (V.int (if k = true then 1 else 0)) H) [.int i] H (.int i) := fun H1 _ _ q =>
  .inl ⟨i, rfl, q H1 (Ex.refl H1)⟩
theorem rc_intB {b : Bool} : RC (fun xs H Q => (∃ i, xs = [V.int i] ∧ Q (V.int i) H) ∨ ∃ k, xs = [V.bl k] ∧ Q (V.int (if k = true then 1 else 0)) H) [.bl b] H (.int (if b = true then 1 else 0)) := fun H1 _ _ q =>
  .inr ⟨b, rfl, q H1 (Ex.refl H1)⟩
theorem rc_lenL {p : Addr} {xs : List V} (h : SqL K H p xs) : RC (fun vs H Q => ∃ p ys, vs = [V.ref p] ∧ (SqL K H p ys ∨ SqT K H p ys) ∧ Q (V.int ys.length) H) [.ref p] H (.int xs.length) := fun H1 e _ q =>
  ⟨p, xs, rfl, .inl (ex_l e h), q H1 (Ex.refl H1)⟩
theorem rc_sum {p : Addr} {ns : List Int} (h : SqL K H p (ns.map V.int)) : RC (fun vs H Q => ∃ (a : Addr) (ns : List Int), vs = [V.ref a] ∧ SqL K H a (ns.map V.int) ∧ Q (V.int ns.sum) H) [.ref p] H (.int ns.sum) := fun H1 e _ q =>
  ⟨p, ns, rfl, ex_l e h, q H1 (Ex.refl H1)⟩
end
/-- the int at a place -/
theorem at_int {ns : List Int} {i : Nat} (h : i < ns.length) : atI (ns.map V.int) (i : Int) = some (.int (at0 ns i)) := by
  refine atI_nat ?_
  rw [List.getElem?_map, List.getElem?_eq_getElem h]
  unfold at0
  rw [List.getD_eq_getElem?_getD, List.getElem?_eq_getElem h]
  rfl
def bitsOf (n : Int) : Int := ((Builtin.Int.intBits (n - 1) : Nat) : Int)
/-! ### readings in short -/
section
variable {σ : L2.St} {H : Hp} {t : TT} {tu tz : TS} {D : Ends} {K : PySem.W.Frag} {ta tb : TE}
/-- an if that is not taken -/
theorem q_skip (h : EvT t σ H false) (k : ∀ H1, Ex H H1 → tz D σ H1) : tSeq (tIfS t tu tNext) tz D σ H := q_when h (fun hb => absurd hb Bool.false_ne_true) (fun _ => k)
theorem s_skip (h : EvT t σ H false) (k : ∀ H1, Ex H H1 → D.nx σ H1) : tIfS t tu tNext D σ H := s_when h (fun hb => absurd hb Bool.false_ne_true) (fun _ => k)
/-- an if that is taken -/
theorem q_take (h : EvT t σ H true) (k : ∀ H1, Ex H H1 → tu { D with nx := tz D } σ H1) : tSeq (tIfS t tu tNext) tz D σ H := q_when h (fun _ => k) (fun hb => nomatch hb)
theorem et_lt {i j : Int} (ha : Ev ta σ H (.int i)) (hb : Ev tb σ H (.int j)) : EvT (tTest (tOp (rI0 fun i j => .bl (decide (i < j))) ta tb)) σ H (decide (i < j)) := et_test (ev_op ha hb rv_I0)
theorem et_le {i j : Int} (ha : Ev ta σ H (.int i)) (hb : Ev tb σ H (.int j)) : EvT (tTest (tOp (rI0 fun i j => .bl (decide (i ≤ j))) ta tb)) σ H (decide (i ≤ j)) := et_test (ev_op ha hb rv_I0)
theorem et_gt {i j : Int} (ha : Ev ta σ H (.int i)) (hb : Ev tb σ H (.int j)) : EvT (tTest (tOp (rI0 fun i j => .bl (decide (j < i))) ta tb)) σ H (decide (j < i)) := et_test (ev_op ha hb rv_I0)
theorem et_ge {i j : Int} (ha : Ev ta σ H (.int i)) (hb : Ev tb σ H (.int j)) : EvT (tTest (tOp (rI0 fun i j => .bl (decide (j ≤ i))) ta tb)) σ H (decide (j ≤ i)) := et_test (ev_op ha hb rv_I0)
theorem et_neI {i j : Int} (ha : Ev ta σ H (.int i)) (hb : Ev tb σ H (.int j)) : EvT (tTest (tOp rNe ta tb)) σ H (!decide (i = j)) := et_test (ev_is (ev_op ha hb (rv_ne rfl)) (by simp))
theorem et_eqI {i j : Int} (ha : Ev ta σ H (.int i)) (hb : Ev tb σ H (.int j)) : EvT (tTest (tOp rEq ta tb)) σ H (decide (i = j)) := et_test (ev_is (ev_op ha hb (rv_eq rfl)) (by simp))
/-- x + y, x - y, x * y, x // y, x % y -/
theorem ev_add {i j : Int} (ha : Ev ta σ H (.int i)) (hb : Ev tb σ H (.int j)) : Ev (tOp (rI0 fun i j => .int (i + j)) ta tb) σ H (.int (i + j)) := ev_op ha hb rv_I0
theorem ev_sub {i j : Int} (ha : Ev ta σ H (.int i)) (hb : Ev tb σ H (.int j)) : Ev (tOp (rI0 fun i j => .int (i - j)) ta tb) σ H (.int (i - j)) := ev_op ha hb rv_I0
theorem ev_mulR {i j : Int} (h1 : -18446744073709551616 < j) (h2 : j < 18446744073709551616) (ha : Ev ta σ H (.int i)) (hb : Ev tb σ H (.int j)) : Ev (tOp (rI CMul fun i j => .int (i * j)) ta tb) σ H (.int (i * j)) := ev_op ha hb (rv_I (Or.inr ⟨by omega, by omega⟩))
theorem ev_mulL {i j : Int} (h1 : -18446744073709551616 < i) (h2 : i < 18446744073709551616) (ha : Ev ta σ H (.int i)) (hb : Ev tb σ H (.int j)) : Ev (tOp (rI CMul fun i j => .int (i * j)) ta tb) σ H (.int (i * j)) := ev_op ha hb (rv_I (Or.inl ⟨by omega, by omega⟩))
theorem ev_mod {i j : Int} (h : 0 < j) (ha : Ev ta σ H (.int i)) (hb : Ev tb σ H (.int j)) : Ev (tOp (rI (fun _ j => 0 < j) fun i j => .int (i % j)) ta tb) σ H (.int (i % j)) := ev_op ha hb (rv_I h)
theorem div_ok {i j : Int} (h : 0 < j) (h2 : j < 18446744073709551616) : CDivW i j := wide_div (b := 64) h (by omega) (by decide) (by decide)
theorem ev_div {i j : Int} (h : 0 < j) (h2 : j < 18446744073709551616) (ha : Ev ta σ H (.int i)) (hb : Ev tb σ H (.int j)) : Ev (tOp (rI CDivW fun i j => .int (i / j)) ta tb) σ H (.int (i / j)) := ev_op ha hb (rv_I (div_ok h h2))
theorem ev_int {i : Int} (ha : Ev ta σ H (.int i)) : Ev (tCB (fun xs H Q => (∃ i, xs = [V.int i] ∧ Q (V.int i) H) ∨ ∃ k, xs = [V.bl k] ∧ Q (V.int (if k = true then 1 else 0)) H) (tCons ta tNil)) σ H (.int i) := ev_cb (ea_cons ha ea_nil) rc_int
theorem ev_intB {b : Bool} (ha : Ev ta σ H (.bl b)) : Ev (tCB (fun xs H Q => (∃ i, xs = [V.int i] ∧ Q (V.int i) H) ∨ ∃ k, xs = [V.bl k] ∧ Q (V.int (if k = true then 1 else 0)) H) (tCons ta tNil)) σ H (.int (if b = true then 1 else 0)) := ev_cb (ea_cons ha ea_nil) rc_intB
/-- xs[i] of ints -/
theorem ev_at {a : Addr} {ns : List Int} {i : Nat} (hs : SqL K H a (ns.map V.int)) (hi : i < ns.length) (ha : Ev ta σ H (.ref a)) (hb : Ev tb σ H (.int (i : Int))) : Ev (tOp (rIxL K) ta tb) σ H (.int (at0 ns i)) := ev_op ha hb (rv_ixL hs (at_int hi))
end
theorem at0_get {ns : List Int} {i : Nat} {x : V} (h : (ns.map V.int)[i]? = some x) : i < ns.length ∧ x = .int (at0 ns i) := by
  rw [List.getElem?_map] at h
  cases e : ns[i]? with
  | none =>
    rw [e] at h
    cases h
  | some y =>
    rw [e] at h
    have hi : i < ns.length := (List.getElem?_eq_some_iff.mp e).1
    refine ⟨hi, ?_⟩
    unfold at0
    rw [List.getD_eq_getElem?_getD, e]
    exact (Option.some.inj h).symm
theorem at0_mem {ns : List Int} {i : Nat} (h : i < ns.length) : at0 ns i ∈ ns := by
  unfold at0
  rw [List.getD_eq_getElem?_getD, List.getElem?_eq_getElem h]
  exact List.getElem_mem h
section
variable {K : PySem.W.Frag}
theorem rc_isi {n : Int} {c : String} {b : Bool} {H : Hp} (h : kitB "int" c = some b) : RC (rIsi K) [.int n, .ty c] H (.bl b) := fun H1 _ _ q =>
  ⟨.int n, .ty c, _, _, b, rfl, .ty c, .base (.int n), kit_ty h, q H1 (Ex.refl H1)⟩
theorem rc_isiS {z : Str} {c : String} {b : Bool} {H : Hp} (h : kitB "str" c = some b) : RC (rIsi K) [.str z, .ty c] H (.bl b) := fun H1 _ _ q =>
  ⟨.str z, .ty c, _, _, b, rfl, .ty c, .base (.str z), kit_ty h, q H1 (Ex.refl H1)⟩
theorem pow_mono {b : Int} (hb : 1 ≤ b) {i j : Nat} (h : i ≤ j) : b ^ i ≤ b ^ j := by
  induction h with
  | refl => exact Int.le_refl _
  | @step k _ ih =>
    have hp : 0 ≤ b ^ k := Int.pow_nonneg (by omega)
    have h2 : b ^ k * 1 ≤ b ^ k * b := Int.mul_le_mul_of_nonneg_left hb hp
    rw [Int.mul_one] at h2
    rw [Int.pow_succ]
    omega
theorem pow_pos1 {b : Int} (hb : 1 ≤ b) (i : Nat) : 1 ≤ b ^ i := by
  have h := pow_mono hb (Nat.zero_le i)
  rw [Int.pow_zero] at h
  exact h
theorem log2_is {n i : Nat} (h1 : 2 ^ i ≤ n) (h2 : n < 2 ^ (i + 1)) : n.log2 = i := by
  have h0 : n ≠ 0 := by
    have := Nat.pow_pos (n := i) (show 0 < 2 by decide)
    omega
  have a := (Nat.log2_lt h0).mpr h2
  have b := (Nat.le_log2 h0).mpr h1
  omega
theorem bits_is {m : Int} {i : Nat} (h1 : 1 ≤ m) (h2 : m ≤ 2 ^ i) (h3 : i = 0 ∨ ∃ j, i = j + 1 ∧ (2 : Int) ^ j < m) : bitsOf m = (i : Int) := by
  unfold bitsOf Builtin.Int.intBits
  obtain ⟨n, hn⟩ := Int.eq_ofNat_of_zero_le (show 0 ≤ m - 1 by omega)
  rw [hn]
  have cast : ∀ k : Nat, ((2 : Int) ^ k) = ((2 ^ k : Nat) : Int) := fun k => by
    rw [Int.natCast_pow]
    rfl
  rw [cast] at h2
  have hlt : n < 2 ^ i := by omega
  rcases h3 with rfl | ⟨j, rfl, h3⟩
  · have hz : n = 0 := by
      rw [Nat.pow_zero] at hlt
      omega
    subst hz
    rfl
  · rw [cast] at h3
    have hge : 2 ^ j ≤ n := by omega
    have h0 : n ≠ 0 := by
      have := Nat.pow_pos (n := j) (show 0 < 2 by decide)
      omega
    rw [if_neg (by simpa using h0)]
    show (((n : Int).natAbs.log2 + 1 : Nat) : Int) = ((j + 1 : Nat) : Int)
    rw [Int.natAbs_natCast, log2_is hge hlt]
theorem bits_nn (m : Int) : 0 ≤ bitsOf m := Int.natCast_nonneg _
theorem ev_atI {ta tb : TE} {σ : L2.St} {H : Hp} {a : Addr} {ns : List Int} {i : Nat} {z : Int} (hs : SqL K H a (ns.map V.int)) (hi : i < ns.length) (hz : z = (i : Int)) (ha : Ev ta σ H (.ref a)) (hb : Ev tb σ H (.int z)) : Ev (tOp (rIxL K) ta tb) σ H (.int (at0 ns i)) := by
  subst hz
  exact ev_at hs hi ha hb
theorem ev_callN0 {tk : TA} {σ : L2.St} {H : Hp} {sp : Sp} {n : Nat} {gV : List V → List V → List V} {E : XK} {zs : List V} {z : V} (h : EvA tk σ H zs) (hn : zs.length = n) (hs : SpV sp (gV [] zs) H z) : Ev (tCallN 0 n sp gV E tNil tk) σ H z := fun H1 e Q q =>
  h H1 e _ fun H2 e2 => ⟨rfl, hn, hs H2 (e.trans e2) Q (fun H3 e3 => q H3 (e2.trans e3)) E⟩
end
end Ver
namespace Ver
open PySem PySem.Spec PyProof.Rows L2 Evl
/-! ### enumerate(xs, start=k), xs a list or a tuple -/
section
variable {M : Model} {A : Around} {E : Value → Shared → Prop} {s : Shared} {env : Env}
theorem type_with_kw {pos : Pos} {T : String} {args : List (Bool × Sem Value)} {kw : List (Option Str × Sem Value)} {Q : Value → Shared → Prop}
    (h1 : args.any (·.1) = false) (h2 : kw.any (·.1.isNone) = false)
    (h : wpAny M A (evalArgs (.type T) true args kw) (fun a s1 => wpAny M A (call (.type T) a.pos a.kw) Q E s1) E s) :
    wpAny M A (callWith pos (.type T) [] args kw) Q E s := by
  unfold callWith
  refine wpAny_bind (wpAny_holding ?_)
  refine wpAny_mono h (fun a s1 got => ?_) (fun _ _ x => x)
  refine wpAny_bind (wpAny_standAt ?_)
  simp only [h1, h2, Bool.or_false]
  refine wpAny_bind (wpAny_pure ?_)
  refine wpAny_bind (wpAny_mono got (fun r s2 hr => ?_) (fun _ _ x => x))
  exact wpAny_bind (wpAny_holding (wpAny_point (wpAny_pure hr)))
end
/-- the list at a, its items in new pairs, counted from k on -/
def IteL (K : PySem.W.Frag) (k : Int) (a : Addr) : It where
  go := fun i H => ∃ (xs : List V) (x : V), SqL K H a xs ∧ xs[i]? = some x
  yld := fun i H v H' => ∃ T x, v = .ref T ∧ H T = none ∧ H' = upd H T (.tup [.int (k + (i : Int)), x]) ∧ ∀ xs, SqL K H a xs → xs[i]? = some x
  stop := fun i H => ∃ xs : List V, SqL K H a xs ∧ xs.length = i
def IteT (K : PySem.W.Frag) (k : Int) (a : Addr) : It where
  go := fun i H => ∃ (xs : List V) (x : V), SqT K H a xs ∧ xs[i]? = some x
  yld := fun i H v H' => ∃ T x, v = .ref T ∧ H T = none ∧ H' = upd H T (.tup [.int (k + (i : Int)), x]) ∧ ∀ xs, SqT K H a xs → xs[i]? = some x
  stop := fun i H => ∃ xs : List V, SqT K H a xs ∧ xs.length = i
theorem two_mem {b e i : Addr} (h : b ∈ [e, i]) : b = e ∨ b = i := by simpa using h
section
variable {P : Program} {w : World} {K : PySem.W.Frag} {elts : List Expr} {kk : Nat} {tpos : Pos}
theorem turnL (k : Int) (a e it : Addr) : Turn P w K (.Tuple elts kk tpos) (IteL K k a) [e, it] e
    (fun i h => (∃ old, IsEnum h e it (k + (i : Int)) old) ∧ h.IsListIter it a i ∧ e ≠ it ∧ a ≠ it ∧ a ≠ e) where
  mem := List.mem_cons_self ..
  obj := fun i h st b hb => by
    obtain ⟨⟨old, he⟩, ⟨o, ho, _, hd⟩, _⟩ := st
    rcases two_mem hb with z | z
    · subst z
      exact ⟨_, he, fun v q => nomatch q⟩
    · subst z
      refine ⟨o, ho, fun v q => ?_⟩
      rw [hd] at q
      cases q
  keep := fun i h h' st kp => by
    obtain ⟨⟨old, he⟩, hi, r⟩ := st
    exact ⟨⟨old, kp e (by simp) _ he⟩, hi.at fun o q => kp it (by simp) o q, r⟩
  item := by
    intro X hP hw hK hc i pins s σ H E I hf st hg
    subst hP hw hK
    obtain ⟨⟨old, he⟩, hit, hei, hai, hae⟩ := st
    obtain ⟨xs, x, hq, hx⟩ := hg
    obtain ⟨its, rv, p, hz⟩ := I.list hq
    obtain ⟨u, hu, ru⟩ := rv.get hx
    have hil : i < its.toArray.size := by
      have := (List.getElem?_eq_some_iff.mp hu).1
      simpa using this
    have D := Draws.list (prog := X.prog) (w := X.w) (A := X.A.in1) (I.ok.hd hc) it a hai its.toArray
    have lte : e < s.heap.objs.size := Heap.lt_size he
    have lti : it < s.heap.objs.size := by
      obtain ⟨_, q, _⟩ := hit
      exact Heap.lt_size q
    refine wpAny_pyNext_enum_itemC D he ⟨hit, p.isList⟩ hil hei (by simp [hei, hae.symm]) ?_
    intro y h' tk hy ho hst hT hsz keep
    have eu : y = u := by
      have h2 : its.toArray[i]? = some u := by simpa using hu
      rw [h2] at hy
      exact (Option.some.inj hy).symm
    subst eu
    refine ⟨_, rfl, wpAny_letOwnedTupleGo_enum (s := { s with heap := h', toks := tk + 1 }) ho ?_⟩
    intro h2 he2 sb
    have t2 : h2.get? s.heap.objs.size = some { cls := .type "tuple", data := .seq #[.int (k + (i : Int)) tk, y] } := (sb.2 _ (Nat.ne_of_gt lte)).trans hT
    have new : ObjOk X.prog X.w (upd H s.heap.objs.size (.tup [.int (k + (i : Int)), x])) h2 s.heap.objs.size (.tup [.int (k + (i : Int)), x]) :=
      ⟨(by show 2 ≤ sizeLine; decide), [.int (k + (i : Int)) tk, y], .cons ⟨_, rfl⟩ (.cons ru .nil), ⟨_, t2, rfl, _, rfl⟩⟩
    have I1 : Inv X pins σ (upd H s.heap.objs.size (.tup [.int (k + (i : Int)), x])) { s with heap := h2, toks := tk + 1 } := by
      refine I.turnedNew (ch := [e, it]) (fun b ob nb q => ?_) hf (Nat.le_refl _) new
      have n1 : b ≠ e := fun z => nb (by simp [z])
      have n2 : b ≠ it := fun z => nb (by simp [z])
      exact (sb.2 b n1).trans (keep b ob n1 n2 q)
    refine ⟨.ref s.heap.objs.size, _, I1, rfl, ⟨_, x, rfl, I.hok.fresh (Nat.le_refl _), rfl, fun ys hy2 => ?_⟩, ⟨⟨y, ?_⟩, hst.1.at fun o q => (sb.2 it (Ne.symm hei)).trans q, hei, hai, hae⟩, fun b hb => ?_⟩
    · rw [I.list_inj hy2 hq]
      exact hx
    · have e1 : k + ((i + 1 : Nat) : Int) = k + (i : Int) + 1 := by omega
      rw [e1]
      exact he2
    · have lb : b < s.heap.objs.size := by
        rcases two_mem hb with z | z
        · rw [z]
          exact lte
        · rw [z]
          exact lti
      rw [upd_ne (Nat.ne_of_lt lb)]
      exact (hf b hb).1
  done := by
    intro X hP hw hK hc i pins s σ H E I hf st hg
    subst hP hw hK
    obtain ⟨⟨old, he⟩, hit, hei, hai, hae⟩ := st
    obtain ⟨xs, hq, hx⟩ := hg
    obtain ⟨its, rv, p, hz⟩ := I.list hq
    obtain ⟨f0, f1, f2, f3, f4, f5⟩ := hf it (by simp)
    have hl := rv.length
    have D := Draws.list (prog := X.prog) (w := X.w) (A := X.A.in1) (I.ok.hd hc) it a hai its.toArray
    have c : i = its.toArray.size := by
      simp
      omega
    subst c
    exact wpAny_pyNext_enum_endD D he ⟨hit, p.isList⟩ fun h' eb => ⟨rfl, I.turned (t' := s.toks) (fun b o hb q => eb b o hb q) f0 f1 f3 f4 f5⟩
  self := fun A i s Q E st h => by
    obtain ⟨⟨_, he⟩, _⟩ := st
    exact wpAny_pyIter_enum he h
theorem turnT (k : Int) (a e it : Addr) : Turn P w K (.Tuple elts kk tpos) (IteT K k a) [e, it] e
    (fun i h => (∃ old, IsEnum h e it (k + (i : Int)) old) ∧ h.IsTupleIter it a i ∧ e ≠ it ∧ a ≠ it ∧ a ≠ e) where
  mem := List.mem_cons_self ..
  obj := fun i h st b hb => by
    obtain ⟨⟨old, he⟩, ⟨o, ho, _, hd⟩, _⟩ := st
    rcases two_mem hb with z | z
    · subst z
      exact ⟨_, he, fun v q => nomatch q⟩
    · subst z
      refine ⟨o, ho, fun v q => ?_⟩
      rw [hd] at q
      cases q
  keep := fun i h h' st kp => by
    obtain ⟨⟨old, he⟩, hi, r⟩ := st
    exact ⟨⟨old, kp e (by simp) _ he⟩, hi.at fun o q => kp it (by simp) o q, r⟩
  item := by
    intro X hP hw hK hc i pins s σ H E I hf st hg
    subst hP hw hK
    obtain ⟨⟨old, he⟩, hit, hei, hai, hae⟩ := st
    obtain ⟨xs, x, hq, hx⟩ := hg
    obtain ⟨its, rv, p, hz⟩ := I.tuple hq
    obtain ⟨u, hu, ru⟩ := rv.get hx
    have hil : i < its.toArray.size := by
      have := (List.getElem?_eq_some_iff.mp hu).1
      simpa using this
    have D := Draws.tuple (prog := X.prog) (w := X.w) (A := X.A.in1) (I.ok.hd hc) it a hai its.toArray
    have lte : e < s.heap.objs.size := Heap.lt_size he
    have lti : it < s.heap.objs.size := by
      obtain ⟨_, q, _⟩ := hit
      exact Heap.lt_size q
    refine wpAny_pyNext_enum_itemC D he ⟨hit, (show s.heap.IsTuple a its.toArray from p)⟩ hil hei (by simp [hei, hae.symm]) ?_
    intro y h' tk hy ho hst hT hsz keep
    have eu : y = u := by
      have h2 : its.toArray[i]? = some u := by simpa using hu
      rw [h2] at hy
      exact (Option.some.inj hy).symm
    subst eu
    refine ⟨_, rfl, wpAny_letOwnedTupleGo_enum (s := { s with heap := h', toks := tk + 1 }) ho ?_⟩
    intro h2 he2 sb
    have t2 : h2.get? s.heap.objs.size = some { cls := .type "tuple", data := .seq #[.int (k + (i : Int)) tk, y] } := (sb.2 _ (Nat.ne_of_gt lte)).trans hT
    have new : ObjOk X.prog X.w (upd H s.heap.objs.size (.tup [.int (k + (i : Int)), x])) h2 s.heap.objs.size (.tup [.int (k + (i : Int)), x]) :=
      ⟨(by show 2 ≤ sizeLine; decide), [.int (k + (i : Int)) tk, y], .cons ⟨_, rfl⟩ (.cons ru .nil), ⟨_, t2, rfl, _, rfl⟩⟩
    have I1 : Inv X pins σ (upd H s.heap.objs.size (.tup [.int (k + (i : Int)), x])) { s with heap := h2, toks := tk + 1 } := by
      refine I.turnedNew (ch := [e, it]) (fun b ob nb q => ?_) hf (Nat.le_refl _) new
      have n1 : b ≠ e := fun z => nb (by simp [z])
      have n2 : b ≠ it := fun z => nb (by simp [z])
      exact (sb.2 b n1).trans (keep b ob n1 n2 q)
    refine ⟨.ref s.heap.objs.size, _, I1, rfl, ⟨_, x, rfl, I.hok.fresh (Nat.le_refl _), rfl, fun ys hy2 => ?_⟩, ⟨⟨y, ?_⟩, hst.1.at fun o q => (sb.2 it (Ne.symm hei)).trans q, hei, hai, hae⟩, fun b hb => ?_⟩
    · rw [I.tuple_inj hy2 hq]
      exact hx
    · have e1 : k + ((i + 1 : Nat) : Int) = k + (i : Int) + 1 := by omega
      rw [e1]
      exact he2
    · have lb : b < s.heap.objs.size := by
        rcases two_mem hb with z | z
        · rw [z]
          exact lte
        · rw [z]
          exact lti
      rw [upd_ne (Nat.ne_of_lt lb)]
      exact (hf b hb).1
  done := by
    intro X hP hw hK hc i pins s σ H E I hf st hg
    subst hP hw hK
    obtain ⟨⟨old, he⟩, hit, hei, hai, hae⟩ := st
    obtain ⟨xs, hq, hx⟩ := hg
    obtain ⟨its, rv, p, hz⟩ := I.tuple hq
    obtain ⟨f0, f1, f2, f3, f4, f5⟩ := hf it (by simp)
    have hl := rv.length
    have D := Draws.tuple (prog := X.prog) (w := X.w) (A := X.A.in1) (I.ok.hd hc) it a hai its.toArray
    have c : i = its.toArray.size := by
      simp
      omega
    subst c
    exact wpAny_pyNext_enum_endD D he ⟨hit, (show s.heap.IsTuple a its.toArray from p)⟩ fun h' eb => ⟨rfl, I.turned (t' := s.toks) (fun b o hb q => eb b o hb q) f0 f1 f3 f4 f5⟩
  self := fun A i s Q E st h => by
    obtain ⟨⟨_, he⟩, _⟩ := st
    exact wpAny_pyIter_enum he h
/-- what enumerate(xs, start=k) walks -/
def iEnumK (K : PySem.W.Frag) (ta tk : TA) : TI := fun σ H R => ta σ H fun vs H1 => tk σ H1 fun zs H2 => ∃ (a : Addr) (k : Int), vs = [.ref a] ∧ zs = [.int k] ∧ (0 ≤ k ∧ k ≤ 1000) ∧
  ((∃ xs, SqL K H2 a xs ∧ R (IteL K k a) H2) ∨ (∃ xs, SqT K H2 a xs ∧ R (IteT K k a) H2))
theorem pi_enumK {X : Cx} {e ke : Expr} {ta tk : TA} {p pos tpos kpos : Pos} {elts : List Expr} {kk : Nat} (gl : Gl X "enumerate") (no : X.mg "enumerate" = none) (ha : PA X [e] ta) (hk : PK X [⟨some (Str.ofString "start"), ke, kpos⟩] tk)
    (h1 : backTo pos (starEach [e] X.env) = (false, eval e X.env) :: backTo pos (starEach [] X.env) := by rfl) (h2 : (backTo pos (starEach [e] X.env)).any (·.1) = false := by rfl)
    (h3 : (backToKw pos (keywordEach [⟨some (Str.ofString "start"), ke, kpos⟩] X.env)).all (·.1.isSome) = true := by rfl)
    (h4 : (backToKw pos (keywordEach [⟨some (Str.ofString "start"), ke, kpos⟩] X.env)).any (·.1.isNone) = false := by rfl)
    (h5 : (backToKw pos (keywordEach [⟨some (Str.ofString "start"), ke, kpos⟩] X.env)).filterMap (·.1) = [Str.ofString "start"] := by rfl) :
    PI X (.Tuple elts kk tpos) (.Call (.Name "enumerate" p) [e] [⟨some (Str.ofString "start"), ke, kpos⟩] pos) (iEnumK X.K ta tk) := by
  refine ⟨fun pins s σ H R I h => ?_⟩
  refine wpAny_Call_Name_kw (ld_blt I gl no boot_enumerate ?_ (by decide) (by decide))
  refine type_with_kw h2 h4 ?_
  have run := ha.run pos pins s σ H _ I h
  rw [h1] at run ⊢
  refine evalArgs_kwB h3 (thn run ?_)
  intro us s1 got
  obtain ⟨vs, H1, I1, r1, q1⟩ := got
  refine thn (hk.run pos pins s1 σ H1 _ I1 q1) ?_
  intro ws s2 got2
  obtain ⟨zs, H2, I2, r2, a, k, rfl, rfl, hkb, q2⟩ := got2
  rw [h5]
  obtain ⟨u, rfl, ru⟩ := vals1 r1
  obtain ⟨v, rfl, rv⟩ := vals1 r2
  cases (show u = Value.ref a from ru)
  obtain ⟨t, rfl⟩ := rv
  have fin : ∀ (h' : Heap) (J : It) (tn : Nat → Heap → Prop), (∀ b o, s2.heap.get? b = some o → h'.get? b = some o) → Turn X.prog X.w X.K (.Tuple elts kk tpos) J [s2.heap.objs.size + 1, s2.heap.objs.size] (s2.heap.objs.size + 1) tn → tn 0 h' → R J H2 →
      PIE X pins σ (.Tuple elts kk tpos) R (.ref (s2.heap.objs.size + 1)) { s2 with heap := h' } := by
    intro h' J tn keep tr t0 q
    have I3 : Inv X pins σ H2 { s2 with heap := h' } := I2.kept (t' := s2.toks) keep
    refine ⟨s2.heap.objs.size + 1, [s2.heap.objs.size + 1, s2.heap.objs.size], tn, J, H2, rfl, I3, tr, t0, fun b hb => ?_, q⟩
    have le : s2.heap.objs.size ≤ b := by
      rcases two_mem hb with z | z
      · rw [z]
        exact Nat.le_add_right _ _
      · rw [z]
        exact Nat.le_refl _
    exact I2.fpOk le (I2.hok.fresh le)
  have k0 : k + ((0 : Nat) : Int) = k := by simp
  rcases q2 with ⟨xs, hs, q⟩ | ⟨xs, hs, q⟩
  · obtain ⟨its, _, p', _⟩ := I2.list hs
    have la : a < s2.heap.objs.size := p'.lt
    refine enum_begins_start (begins_list a its.toArray) p'.isList (by omega) (by omega) fun h' he hit hsz keep => wpAny_pyIter_enum he ?_
    exact fin h' _ _ keep (turnL k a _ _) ⟨⟨.none, by rw [k0]; exact he⟩, ⟨_, hit, rfl, rfl⟩, Nat.succ_ne_self _, Nat.ne_of_lt la, Nat.ne_of_lt (Nat.lt_succ_of_lt la)⟩ q
  · obtain ⟨its, _, p', _⟩ := I2.tuple hs
    have la : a < s2.heap.objs.size := p'.lt
    refine enum_begins_start (begins_tuple a its.toArray) (show s2.heap.IsTuple a its.toArray from p') (by omega) (by omega) fun h' he hit hsz keep => wpAny_pyIter_enum he ?_
    exact fin h' _ _ keep (turnT k a _ _) ⟨⟨.none, by rw [k0]; exact he⟩, ⟨_, hit, rfl, rfl⟩, Nat.succ_ne_self _, Nat.ne_of_lt la, Nat.ne_of_lt (Nat.lt_succ_of_lt la)⟩ q
end
end Ver
namespace Ver
open PySem PySem.Spec PyProof.Rows L2 Evl
/-! ### zip of two texts, in new pairs -/
def Izs (x y : Str) : It where
  go := fun i H => i < x.cps.size ∧ i < y.cps.size
  yld := fun i H v H' => ∃ T c d, v = .ref T ∧ H T = none ∧ H' = upd H T (.tup [.str ⟨#[c]⟩, .str ⟨#[d]⟩]) ∧ x.cps[i]? = some c ∧ y.cps[i]? = some d
  stop := fun i H => i ≤ x.cps.size ∧ i ≤ y.cps.size ∧ (i = x.cps.size ∨ i = y.cps.size)
section
variable {P : Program} {w : World} {K : PySem.W.Frag} {elts : List Expr} {kk : Nat} {tpos : Pos}
theorem five_mem {c z a b d e : Addr} (h : c ∈ [z, a, b, d, e]) : c = z ∨ c = a ∨ c = b ∨ c = d ∨ c = e := by simpa using h
theorem si_at {h h' : Heap} {i : Addr} {n : String} {x : Str} {t : Tok} {k : Nat} (s : h.IsStrIter i n x t k) (f : ∀ o, h.get? i = some o → h'.get? i = some o) : h'.IsStrIter i n x t k := by
  obtain ⟨o, e, r⟩ := s
  exact ⟨o, f o e, r⟩
theorem turnZs (x y : Str) (t u : Tok) (z TI TO i1 i2 : Addr) (S : ZipSep2 z TI TO i1 i2 [i1] [i2]) : Turn P w K (.Tuple elts kk tpos) (Izs x y) [z, TI, TO, i1, i2] z
    (fun i h => IsZip h z TI TO .none ∧ IsTupOf2 h TI (.ref i1) (.ref i2) ∧ (∃ a1 a2, IsTupOf2 h TO a1 a2) ∧ h.IsStrIter i1 (strIterType x) x t i ∧ h.IsStrIter i2 (strIterType y) y u i) where
  mem := List.mem_cons_self ..
  obj := fun i h st c hc => by
    obtain ⟨hz, hTI, ⟨a1, a2, hTO⟩, ⟨o1, e1, _, d1⟩, ⟨o2, e2, _, d2⟩⟩ := st
    rcases five_mem hc with q | q | q | q | q
    · rw [q]; exact ⟨_, hz, fun v q => nomatch q⟩
    · rw [q]; exact ⟨_, hTI, fun v q => nomatch q⟩
    · rw [q]; exact ⟨_, hTO, fun v q => nomatch q⟩
    · rw [q]; exact ⟨o1, e1, fun v q => by rw [d1] at q; cases q⟩
    · rw [q]; exact ⟨o2, e2, fun v q => by rw [d2] at q; cases q⟩
  keep := fun i h h' st k => by
    obtain ⟨hz, hTI, ⟨a1, a2, hTO⟩, h1, h2⟩ := st
    exact ⟨k z (by simp) _ hz, k TI (by simp) _ hTI, ⟨a1, a2, k TO (by simp) _ hTO⟩, si_at h1 fun o q => k i1 (by simp) o q, si_at h2 fun o q => k i2 (by simp) o q⟩
  item := by
    intro X hP hw hK hc i pins s σ H E I hf st hg
    subst hP hw hK
    obtain ⟨hz, hTI, ⟨a1, a2, hTO⟩, h1, h2⟩ := st
    have D1 := Draws.text (prog := X.prog) (w := X.w) (A := X.A.in1) (I.ok.hd hc) i1 x t
    have D2 := Draws.text (prog := X.prog) (w := X.w) (A := X.A.in1) (I.ok.hd hc) i2 y u
    have hzl : z < s.heap.objs.size := Heap.lt_size hz
    have l1 : i1 < s.heap.objs.size := by
      obtain ⟨o, e, _⟩ := h1
      exact Heap.lt_size e
    have l2 : i2 < s.heap.objs.size := by
      obtain ⟨o, e, _⟩ := h2
      exact Heap.lt_size e
    refine wpAny_pyNext_zipD2_item S D1 D2 hz hTI hTO h1 h2 hg.1 hg.2 fun y1 y2 h' tk ⟨c, u1, hc1, ev1⟩ ⟨d, u2, hd1, ev2⟩ b1 b2 s1 s2 hT hsz hk => ?_
    subst ev1
    subst ev2
    refine ⟨_, rfl, wpAny_letOwnedTupleGo_zip (s := { s with heap := h', toks := tk }) b1 fun h'' z'' sb => ?_⟩
    have hT2 : h''.get? s.heap.objs.size = some { cls := .type "tuple", data := .seq #[.str ⟨#[c]⟩ u1, .str ⟨#[d]⟩ u2] } := (sb.2 _ (Nat.ne_of_gt hzl)).trans hT
    have new : ObjOk X.prog X.w (upd H s.heap.objs.size (.tup [.str ⟨#[c]⟩, .str ⟨#[d]⟩])) h'' s.heap.objs.size (.tup [.str ⟨#[c]⟩, .str ⟨#[d]⟩]) :=
      ⟨(by show 2 ≤ sizeLine; decide), [.str ⟨#[c]⟩ u1, .str ⟨#[d]⟩ u2], .cons ⟨_, rfl⟩ (.cons ⟨_, rfl⟩ .nil), ⟨_, hT2, rfl, _, rfl⟩⟩
    have I1 : Inv X pins σ (upd H s.heap.objs.size (.tup [.str ⟨#[c]⟩, .str ⟨#[d]⟩])) { s with heap := h'', toks := tk } := by
      refine I.turnedNew (ch := [z, TI, TO, i1, i2]) (fun b ob nb q => ?_) hf (Nat.le_refl _) new
      exact (sb.2 b (fun q' => nb (by simp [q']))).trans (hk b ob (fun q' => nb (by simp [q'])) (fun q' => nb (by simp [q'])) (fun q' => nb (by simp [q'])) (fun q' => nb (by simp [q'])) q)
    refine ⟨.ref s.heap.objs.size, _, I1, rfl, ⟨_, c, d, rfl, I.hok.fresh (Nat.le_refl _), rfl, hc1, hd1⟩, ⟨z'', ?_, ⟨.str ⟨#[c]⟩ u1, .str ⟨#[d]⟩ u2, ?_⟩, ?_, ?_⟩, fun b hb => ?_⟩
    · exact (sb.2 _ S.TIz).trans (hk _ _ S.TIz S.TITO S.TIi1 S.TIi2 hTI)
    · exact (sb.2 _ S.TOz).trans b2
    · exact si_at s1 fun o q => (sb.2 _ S.zi1.symm).trans q
    · exact si_at s2 fun o q => (sb.2 _ S.zi2.symm).trans q
    · have hlt : b < s.heap.objs.size := by
        rcases five_mem hb with q | q | q | q | q
        · rw [q]; exact hzl
        · rw [q]; exact Heap.lt_size hTI
        · rw [q]; exact Heap.lt_size hTO
        · rw [q]; exact l1
        · rw [q]; exact l2
      rw [upd_ne (Nat.ne_of_lt hlt)]
      exact (hf b hb).1
  done := by
    intro X hP hw hK hc i pins s σ H E I hf st hg
    subst hP hw hK
    obtain ⟨hz, hTI, ⟨a1, a2, hTO⟩, h1, h2⟩ := st
    have D1 := Draws.text (prog := X.prog) (w := X.w) (A := X.A.in1) (I.ok.hd hc) i1 x t
    have D2 := Draws.text (prog := X.prog) (w := X.w) (A := X.A.in1) (I.ok.hd hc) i2 y u
    exact wpAny_pyNext_zipD2_end S D1 D2 hz hTI hTO h1 h2 hg.1 hg.2.1 hg.2.2 fun h' tk hk => ⟨rfl, I.turnedL (t' := tk) (ch := [z, TI, TO, i1, i2]) (fun c o hb q =>
      hk c o (fun q' => hb (by simp [q'])) (fun q' => hb (by simp [q'])) (fun q' => hb (by simp [q'])) (fun q' => hb (by simp [q'])) q) hf⟩
  self := fun A i s Q E st h => wpAny_pyIter_zip st.1 h
theorem ne_nat {a b : Nat} (h : a ≠ b) : (show Addr from a) ≠ (show Addr from b) := h
theorem sep_n (n : Nat) : ZipSep2 (n + 4) (n + 2) (n + 3) n (n + 1) [n] [n + 1] :=
  ⟨ne_nat (by omega), ne_nat (by omega), ne_nat (by omega), ne_nat (by omega), List.mem_singleton.mpr rfl, fun h => absurd (List.mem_singleton.mp h) (ne_nat (by omega)), fun h => absurd (List.mem_singleton.mp h) (ne_nat (by omega)),
    ne_nat (by omega), List.mem_singleton.mpr rfl, fun h => absurd (List.mem_singleton.mp h) (ne_nat (by omega)), fun h => absurd (List.mem_singleton.mp h) (ne_nat (by omega)), fun h => absurd (List.mem_singleton.mp h) (ne_nat (by omega)), fun h => absurd (List.mem_singleton.mp h) (ne_nat (by omega))⟩
def iZipS (ta : TA) : TI := fun σ H R => ta σ H fun vs H1 => ∃ x y, vs = [.str x, .str y] ∧ R (Izs x y) H1
theorem pi_zipS {X : Cx} {e e2 : Expr} {ta : TA} {p pos tpos : Pos} {elts : List Expr} {kk : Nat} (hg : Gl X "zip") (hm : X.mg "zip" = none) (ha : PA X [e, e2] ta)
    (hs : starEach [e, e2] X.env = (false, eval e X.env) :: starEach [e2] X.env := by rfl) (hpl : (backTo pos (starEach [e2] X.env)).any (·.1) = false := by rfl) :
    PI X (.Tuple elts kk tpos) (.Call (.Name "zip" p) [e, e2] [] pos) (iZipS ta) := by
  refine ⟨fun pins s σ H R I h => ?_⟩
  refine Call_ (ld_blt I hg hm PyProof.Rows.boot_zip (PyProof.Rows.callWith_type1 (thn (ha.run pos pins s σ H _ I h) fun us s1 ⟨vs, H1, I1, r1, q1⟩ => ?_) hs hpl))
  obtain ⟨x, y, ex, q⟩ := q1
  subst ex
  cases r1 with
  | cons r rr =>
    cases rr with
    | cons r' rr =>
      cases rr
      obtain ⟨t, rfl⟩ := r
      obtain ⟨u, rfl⟩ := r'
      refine zip_begins2 (begins_text x t) (begins_text y u) trivial trivial fun h' hz hTI hTO g1 g2 hsz hk => wpAny_pyIter_zip hz ?_
      have I2 : Inv X pins σ H1 { s1 with heap := h' } := I1.kept (t' := s1.toks) hk
      have S := sep_n s1.heap.objs.size
      refine ⟨s1.heap.objs.size + 4, [s1.heap.objs.size + 4, s1.heap.objs.size + 2, s1.heap.objs.size + 3, s1.heap.objs.size, s1.heap.objs.size + 1], _, _, H1, rfl, I2, turnZs x y t u _ _ _ _ _ S, ⟨hz, hTI, ⟨_, _, hTO⟩, ⟨_, g1, rfl, rfl⟩, ⟨_, g2, rfl, rfl⟩⟩, fun c hcm => ?_, q⟩
      have hle : s1.heap.objs.size ≤ c := by
        rcases five_mem hcm with z | z | z | z | z
        · rw [z]; exact Nat.le_add_right _ _
        · rw [z]; exact Nat.le_add_right _ _
        · rw [z]; exact Nat.le_add_right _ _
        · rw [z]; exact Nat.le_refl _
        · rw [z]; exact Nat.le_add_right _ _
      exact I1.fpOk hle (I1.hok.fresh hle)
end
end Ver
namespace Ver
open PySem PySem.Spec PyProof.Rows L2 Evl
section
open AutoSeq1 (wpAny_loadPart')
theorem meets_enumerate_newT (l : Addr) (items : Array Value) (n : Nat) (dct : Option Addr) (sl : Array (Option Value)) :
    Meets (Builtin.«enumerate.__new__» ⟨[.type "enumerate", .ref l], []⟩) (fun _ R s => s.heap.get? l = some { cls := .type "tuple", dict := dct, data := .seq items n, slots := sl } ∧
      R (.ok (.ret (.ref (s.heap.push { cls := .type "tuple_iterator", data := .fields #[.ref l, .int 0 0] }).objs.size)))
        { s with heap := (s.heap.push { cls := .type "tuple_iterator", data := .fields #[.ref l, .int 0 0] }).push { cls := .type "enumerate", data := .fields #[.none, .bool false, .ref s.heap.objs.size, rawInt 0, .none, .none] } }) :=
  .of_wp fun prog w A R s h => by
    obtain ⟨hp, g, d, tk, os⟩ := s; obtain ⟨hl, h⟩ := h
    have hsub := sub_enumerate
    have hL : Heap.IsTuple (Shared.heap ⟨hp, g, d, tk, os⟩) l items := ⟨_, hl, rfl, n, rfl⟩
    wp_walk using wpAny_loadPart' hl
    refine wpAny_stack_any fun st => wpAny_pure ?_
    split
    · rename_i c _ _ _ _ _
      cases (c == Value.type "enumerate")
      · wp_walk using wpAny_loadPart' hl, wpAny_pyIter_tuple hL
        exact ⟨_, rfl, h⟩
      · wp_walk using wpAny_loadPart' hl, wpAny_pyIter_tuple hL
        exact ⟨_, rfl, h⟩
    · wp_walk using wpAny_loadPart' hl, wpAny_pyIter_tuple hL
      exact ⟨_, rfl, h⟩
end
section
variable {prog : Program} {w : World} {A : Around} {E : Value → Shared → Prop} {s : Shared}
theorem call_enumerate_tuple {l : Addr} {items : Array Value} {Q : Value → Shared → Prop} (hL : s.heap.IsTuple l items)
    (h : ∀ h', IsEnum h' (s.heap.objs.size + 1) s.heap.objs.size 0 .none → h'.get? s.heap.objs.size = some { cls := .type "tuple_iterator", data := .fields #[.ref l, .int 0 0] } → h'.objs.size = s.heap.objs.size + 2 →
      (∀ b o, s.heap.get? b = some o → h'.get? b = some o) → Q (.ref (s.heap.objs.size + 1)) { s with heap := h' }) :
    wpAny (model prog w) A (call (.type "enumerate") [.ref l]) Q E s := by
  obtain ⟨⟨c, dct, dt, sl⟩, hl, hc, n, hd⟩ := hL
  replace hc : c = .type "tuple" := hc
  replace hd : dt = .seq items n := hd
  subst hc hd
  refine callType_new F.called_enumerate (by decide) (F.typeCall_enumerate_1 _) (F.newCall_enumerate_1 _) (fun obj => F.args_object_init_2 obj _) F.entry_enumerate_new
    (meets_enumerate_newT l items n dct sl) ⟨hl, ?_⟩
  have hz : (s.heap.push { cls := .type "tuple_iterator", data := .fields #[.ref l, .int 0 0] }).objs.size = s.heap.objs.size + 1 := Heap.size_push ..
  show _ ∧ _
  rw [hz]
  have he : IsEnum ((s.heap.push { cls := .type "tuple_iterator", data := .fields #[.ref l, .int 0 0] }).push
      { cls := .type "enumerate", data := .fields #[.none, .bool false, .ref s.heap.objs.size, rawInt 0, .none, .none] }) (s.heap.objs.size + 1) s.heap.objs.size 0 .none := by
    have := Heap.get?_push_size (s.heap.push { cls := .type "tuple_iterator", data := .fields #[.ref l, .int 0 0] })
      (o := { cls := .type "enumerate", data := .fields #[.none, .bool false, .ref s.heap.objs.size, rawInt 0, .none, .none] }) rfl
    rw [hz] at this; exact this
  refine ⟨⟨_, he, rfl⟩, h _ he (Heap.get?_push_of_some _ (Heap.get?_push_size _ rfl)) (by rw [Heap.size_push, hz]) fun b o x => Heap.get?_push_of_some _ (Heap.get?_push_of_some _ x)⟩
end
def iEnumT (K : PySem.W.Frag) (ta : TA) : TI := fun σ H R => ta σ H fun vs H1 => ∃ (a : Addr) (xs : List V), vs = [.ref a] ∧ SqT K H1 a xs ∧ R (IteT K 0 a) H1
theorem pi_enumT {X : Cx} {e : Expr} {ta : TA} {p pos tpos : Pos} {elts : List Expr} {kk : Nat} (hg : Gl X "enumerate") (hm : X.mg "enumerate" = none) (ha : PA X [e] ta) (hs : starEach [e] X.env = [(false, eval e X.env)] := by rfl) :
    PI X (.Tuple elts kk tpos) (.Call (.Name "enumerate" p) [e] [] pos) (iEnumT X.K ta) := by
  refine ⟨fun pins s σ H R I h => ?_⟩
  refine Call_ (ld_blt I hg hm boot_enumerate (PyProof.Rows.callWith_type1 (thn (ha.run pos pins s σ H _ I h) fun us s1 ⟨vs, H1, I1, r1, q1⟩ => ?_) hs rfl))
  obtain ⟨a, xs, ex, hq, q⟩ := q1
  subst ex
  cases r1 with
  | cons r rr =>
    cases rr
    cases r
    obtain ⟨its, rv, p', hz⟩ := I1.tuple hq
    have la : a < s1.heap.objs.size := p'.lt
    refine call_enumerate_tuple (show s1.heap.IsTuple a its.toArray from p') fun h' he hit hsz hk => wpAny_pyIter_enum he ?_
    have I2 : Inv X pins σ H1 { s1 with heap := h' } := I1.kept (t' := s1.toks) hk
    have k0 : (0 : Int) + ((0 : Nat) : Int) = 0 := by simp
    refine ⟨s1.heap.objs.size + 1, [s1.heap.objs.size + 1, s1.heap.objs.size], _, _, H1, rfl, I2, turnT 0 a (s1.heap.objs.size + 1) s1.heap.objs.size, ⟨⟨.none, by rw [k0]; exact he⟩, ⟨_, hit, rfl, rfl⟩, Nat.succ_ne_self _, Nat.ne_of_lt la, Nat.ne_of_lt (Nat.lt_succ_of_lt la)⟩, fun b hb => ?_, q⟩
    have hle : s1.heap.objs.size ≤ b := by
      rcases two_mem hb with z | z
      · rw [z]; exact Nat.le_add_right _ _
      · rw [z]; exact Nat.le_refl _
    exact I1.fpOk hle (I1.hok.fresh hle)
/-! ### what follows: readings of walks with pairs -/
section
variable {K : PySem.W.Frag}
theorem walk_zs {x y : Str} : Walk (Izs x y) (min x.cps.size y.cps.size) (fun _ => True) (YPair (fun i => (x.cps.toList[i]?).map fun c => V.str ⟨#[c]⟩) (fun i => (y.cps.toList[i]?).map fun c => V.str ⟨#[c]⟩)) := by
  refine ⟨fun i _ hi q => ?_, fun _ q => ?_, fun i H v H' hi q y' => ?_⟩
  · show i < x.cps.size ∧ i < y.cps.size
    omega
  · show _ ≤ x.cps.size ∧ _ ≤ y.cps.size ∧ _
    omega
  obtain ⟨T, c, d, h1, h2, h3, h4, h5⟩ := y'
  refine ⟨T, .str ⟨#[c]⟩, .str ⟨#[d]⟩, h1, h2, h3, ?_, ?_⟩
  · show Option.map _ (x.cps.toList[i]?) = _
    rw [Array.getElem?_toList, h4]
    rfl
  · show Option.map _ (y.cps.toList[i]?) = _
    rw [Array.getElem?_toList, h5]
    rfl
end
end Ver
namespace Ver
open PySem PySem.Spec PyProof.Rows L2 Evl
open PySem.Builtin PySem.Builtin.Float
/-! ### f"{n:b}" -/
def binS (n : Nat) : Str := ⟨((Nat.toDigits 2 n).map Char.toNat).toArray⟩
def fB : FormatSpec := { align := 62, type := some 98 }
theorem parse_b (name : String) : parseFormatSpec (Str.ofString "b").cps.toList name 62 = .ok fB := by rfl
section
variable {prog : Program} {w : World} {A : Around} {E : Value → Shared → Prop} {s : Shared}
theorem plain_field {D : List Nat} (h : D.isEmpty = false) : intField' { align := 62, type := some 98 } false [] D [] 4 = ⟨D.toArray⟩ := by
  unfold intField'
  simp [h]
theorem field_b {n : Nat} {t : Tok} {sp : Str} {f : FormatSpec} {Q : Value → Shared → Prop} (hz : (binS n).length ≤ sizeLine) (sz : sp.length ≤ sizeLine) (hne : (sp.length == 0) = false)
    (hasc : ((sp.cps.toList.drop 1).any (· ≥ 128) || (sp.cps.getD 0 0 ≥ 128 && !([60, 62, 61, 94] : List Nat).contains (sp.cps.getD 1 0))) = false)
    (hp : ∀ name, parseFormatSpec sp.cps.toList name 62 = .ok f) (hf : f = { align := 62, type := some 98 })
    (h : ∀ k1 k2, Q (.str (binS n) k1) { s with toks := k2 }) :
    wpAny (model prog w) A (formatField (.int (n : Int) t) sp) Q E s := by
  show wpAny _ _ (holding [.int (n : Int) t] (pyFormat (.int (n : Int) t) sp)) Q E s
  refine wpAny_holding ?_
  unfold pyFormat
  refine wpAny_bind (wpAny_mkStr ?_ sz)
  have isI : ∀ s' : Shared, s'.TypeIs (.int (n : Int) t) "int" := fun s' => typeIs_int s' (n : Int) t
  refine wpAny_bind (m := callSpecial? (.int (n : Int) t) (Str.ofString "__format__") [.str sp s.toks])
    (wpAny_callSpecial?_slot (name := Str.ofString "__format__") (isI _) slot_int_format ?_)
  refine wpAny_call (codeAny_call_builtin slot_int_format.plain entry_int_format
    (slot_int_format.check _ _ _ _ _ _ _ _ (isI _) (args_int_format _ _) ?_))
  unfold Builtin.«int.__format__»
  have hv : (Value.str sp s.toks == Value.none) = false := rfl
  simp only [selfAndOne, noKeywords, Int.intOfSelf, asInt?, asStr?, List.isEmpty_nil, if_true, pure_bind, bind_pure, bind_assoc, hne, hasc, Bool.false_eq_true, if_false, hv]
  refine wpAny_bind (wpAny_typeNameOf (T := "str") (typeIs_str _ _ _) (by decide) ?_)
  intro kind
  refine wpAny_bind (wpAny_typeNameOfCut_int ?_)
  have hty : f.type.getD (if sp.cps.back? == some 0 then 0 else 100) = 98 := by
    rw [hf]
    rfl
  have hpr : f.precision = none := by rw [hf]
  have hnz : f.noNeg0 = false := by rw [hf]
  have hw : f.width = none := by rw [hf]
  have hal : f.alt = false := by rw [hf]
  simp only [hp, hty]
  rw [if_pos (by decide)]
  show wpAny _ _ (if _ then _ else _) _ _ _
  rw [if_neg (by simp [hpr])]
  show wpAny _ _ (if _ then _ else _) _ _ _
  rw [if_neg (by simp [hnz])]
  show wpAny _ _ (if _ then _ else _) _ _ _
  rw [if_neg (by decide)]
  show wpAny _ _ (if _ then _ else _) _ _ _
  rw [if_neg (by decide)]
  show wpAny _ _ (if _ then _ else _) _ _ _
  rw [if_neg (by simp [hw])]
  show wpAny _ _ (retStr _) _ _ _
  unfold retStr
  have neg : decide ((n : Int) < 0) = false := by
    rw [decide_eq_false_iff_not]
    omega
  have ab : ((n : Int)).natAbs = n := Int.natAbs_natCast n
  have up : (fun c : Char => (if ((98 : Nat) == 88) = true then c.toUpper else c).toNat) = Char.toNat := by
    funext c
    rfl
  have b2 : ((2 : Nat) == 10) = false := rfl
  simp only [hal, neg, ab, up, b2, Bool.false_eq_true, if_false]
  subst hf
  have len1 := tDigits_len_ge 2 n
  unfold binS at hz h
  generalize hD : (Nat.toDigits 2 n).map Char.toNat = D at hz h ⊢
  have hD2 : D.isEmpty = false := by
    rw [← hD]
    cases hE : Nat.toDigits 2 n with
    | nil =>
      rw [hE] at len1
      exact absurd len1 (by decide)
    | cons x r => rfl
  refine wpAny_bind (wpAny_mkStr (wpAny_pure ?_) ?hs2)
  case hs2 =>
    show (intField' { align := 62, type := some 98 } false [] D [] 4).length ≤ sizeLine
    rw [plain_field hD2]
    exact hz
  have e : ∀ (k1 : Tok) (k2 : Nat), Q (.str (intField' { align := 62, type := some 98 } false [] D [] 4) k1) { s with toks := k2 } := by
    rw [plain_field hD2]
    exact h
  dsimp only
  refine wpAny_bind (wpAny_isInstance (typeIs_str _ _ _) isSubtype_str_str ?_)
  exact wpAny_pure (e _ _)
end
/-- f"{n:b}" of a number that is not below 0 -/
def tBin (te : TE) : TE := fun σ H Q => te σ H fun x H1 => ∃ n : Nat, x = .int (n : Int) ∧ n < 2 ^ 1000 ∧ Q (.str (binS n)) H1
theorem binS_len {n : Nat} (h : n < 2 ^ 1000) : (binS n).length ≤ sizeLine := by
  have e : (binS n).length = (bins n).length := by
    unfold binS bins Str.length
    simp
  rw [e]
  exact Nat.le_trans (bins_len (by decide) h) (by decide)
theorem spec_facts : (Str.ofString "b").length ≤ sizeLine ∧ ((Str.ofString "b").length == 0) = false ∧
    (((Str.ofString "b").cps.toList.drop 1).any (· ≥ 128) || ((Str.ofString "b").cps.getD 0 0 ≥ 128 && !([60, 62, 61, 94] : List Nat).contains ((Str.ofString "b").cps.getD 1 0))) = false := by decide +kernel
theorem pe_bin {X : Cx} {e se : Expr} {te : TE} {pos : Pos} (he : PE X e te) (hs : PE X se (tC (.str (Str.ofString "b")))) : PE X (.FormattedValue e (-1) (some se) pos) (tBin te) := by
  refine ⟨fun pins s σ H Q I h => ?_⟩
  refine wpAny_FormattedValue_spec (thn (he.run pins s σ H _ I h) ?_)
  intro v s1 got
  obtain ⟨x, H1, I1, r1, n, rfl, hn, q⟩ := got
  obtain ⟨t, rfl⟩ := r1
  refine thn (hs.run pins s1 σ H1 (fun y H2 => y = .str (Str.ofString "b") ∧ Q (.str (binS n)) H2) I1 ⟨rfl, q⟩) ?_
  intro r s2 got2
  obtain ⟨y, H2, I2, r2, rfl, q2⟩ := got2
  obtain ⟨t2, rfl⟩ := r2
  obtain ⟨z1, z2, z3⟩ := spec_facts
  exact ⟨_, t2, rfl, field_b (binS_len hn) z1 z2 z3 parse_b rfl fun k1 k2 => ⟨.str (binS n), H2, I2.tok k2, ⟨k1, rfl⟩, q2⟩⟩
theorem ev_bin {te : TE} {σ : L2.St} {H : Hp} {n : Nat} (h : Ev te σ H (.int (n : Int))) (hn : n < 2 ^ 1000) : Ev (tBin te) σ H (.str (binS n)) := fun H1 e Q q =>
  h H1 e _ fun H2 e2 => ⟨n, rfl, hn, q H2 e2⟩
end Ver
namespace Ver
open PySem PySem.Spec PyProof.Rows L2 Evl
section
variable {P : Program} {w : World} {K : PySem.W.Frag} {mg : Str → Option Value} {base : Heap}
theorem walk_eL {k : Int} {a : Addr} {xs : List V} : Walk (IteL K k a) xs.length (fun H => SqL K H a xs) (YPair (fun i => some (.int (k + (i : Int)))) (fun i => xs[i]?)) := by
  refine ⟨fun i _ hi q => ⟨xs, xs[i], q, by simp [hi]⟩, fun _ q => ⟨xs, q, rfl⟩, fun i H v H' _ q y => ?_⟩
  obtain ⟨T, x, h1, h2, h3, h4⟩ := y
  exact ⟨T, .int (k + (i : Int)), x, h1, h2, h3, rfl, h4 xs q⟩
theorem walk_eT {k : Int} {a : Addr} {xs : List V} : Walk (IteT K k a) xs.length (fun H => SqT K H a xs) (YPair (fun i => some (.int (k + (i : Int)))) (fun i => xs[i]?)) := by
  refine ⟨fun i _ hi q => ⟨xs, xs[i], q, by simp [hi]⟩, fun _ q => ⟨xs, q, rfl⟩, fun i H v H' _ q y => ?_⟩
  obtain ⟨T, x, h1, h2, h3, h4⟩ := y
  exact ⟨T, .int (k + (i : Int)), x, h1, h2, h3, rfl, h4 xs q⟩
theorem s_forE {tl tk : TA} {tb : TS} {D : Ends} {σ : L2.St} {H : Hp} {a : Addr} {k : Int} {xs : List V} {j1 j2 : Nat} (h : EvA tl σ H [.ref a]) (hk : EvA tk σ H [.int k]) (hb : 0 ≤ k ∧ k ≤ 1000) (hx : SqL K H a xs ∨ SqT K H a xs)
    (Pv : Nat → L2.St → Hp → Prop) (h0 : ∀ H1, Ex H H1 → Pv 0 σ H1) (hG : ∀ i σ' H', Pv i σ' H' → Ex H H')
    (hs : ∀ i x σ' H' H2, xs[i]? = some x → Pv i σ' H' → Ex H' H2 → tb { D with nx := Pv (i + 1), ct := Pv (i + 1), bk := D.nx } ((σ'.set j1 (some (.int (k + (i : Int))))).set j2 (some x)) H2)
    (hd : ∀ σ' H', Pv xs.length σ' H' → D.nx σ' H') : tFor (iEnumK K tl tk) (gTup K 2 (gCons (gName j1) (gCons (gName j2) gNil))) tb D σ H := by
  refine h H (Ex.refl H) _ fun H1 e1 => hk H1 e1 _ fun H2 e2 => ?_
  have e12 := e1.trans e2
  have step : ∀ (i : Nat) (x : V) (σ' : L2.St) (H3 H4 : Hp), i < xs.length → Pv i σ' H3 → YPair (fun i => some (.int (k + (i : Int)))) (fun i => xs[i]?) i H3 x H4 →
      gTup K 2 (gCons (gName j1) (gCons (gName j2) gNil)) x σ' H4 fun σ2 H5 => tb { D with nx := Pv (i + 1), ct := Pv (i + 1), bk := D.nx } σ2 H5 := by
    intro i v σ' H3 H4 _ p y
    obtain ⟨T, x, z, rfl, hT, rfl, e3, e4⟩ := y
    cases e3
    exact ⟨T, [.int (k + (i : Int)), z], rfl, st_of upd_same, rfl, _, _, rfl, _, _, rfl, rfl, hs i z σ' H3 _ e4 p (Ex.new hT)⟩
  refine ⟨a, k, rfl, rfl, hb, ?_⟩
  rcases hx with hx | hx
  · exact .inl ⟨xs, ex_l e12 hx, for_it (walk_eL (xs := xs)) Pv (h0 H2 e12) (fun i σ' H' _ p => ex_l (hG i σ' H' p) hx) step hd⟩
  · exact .inr ⟨xs, ex_t e12 hx, for_it (walk_eT (xs := xs)) Pv (h0 H2 e12) (fun i σ' H' _ p => ex_t (hG i σ' H' p) hx) step hd⟩
theorem ev_bm {r : V → List V → Hp → VK → Prop} {to : TE} {ta : TA} {σ : L2.St} {H : Hp} {ty : String} {x z : V} {vs : List V} (hx : Ev to σ H x) (ht : ∀ H1, Ex H H1 → tyV K ty x H1) (ha : EvA ta σ H vs)
    (hr : ∀ H1, Ex H H1 → ∀ Q : VK, (∀ H2, Ex H1 H2 → Q z H2) → r x vs H1 Q) : Ev (tBM K ty r to ta) σ H z := fun H1 e Q q =>
  hx H1 e _ fun H2 e2 => ⟨ht H2 (e.trans e2), ha H2 (e.trans e2) _ fun H3 e3 => hr H3 ((e.trans e2).trans e3) Q fun H4 e4 => q H4 ((e2.trans e3).trans e4)⟩
def nb (n m : Int) : Str := ⟨(nbL n.toNat (bitsOf m).toNat).toArray⟩
theorem bits_lt {n m : Int} (h0 : 0 ≤ n) (h : n < m) : n.toNat < 2 ^ (bitsOf m).toNat := by
  unfold bitsOf Builtin.Int.intBits
  obtain ⟨k, hk⟩ := Int.eq_ofNat_of_zero_le (show 0 ≤ m - 1 by omega)
  rw [hk]
  have hn : n.toNat ≤ k := by omega
  by_cases c : k = 0
  · subst c
    have : n.toNat = 0 := by omega
    rw [this]
    decide
  · rw [if_neg (by simpa using c)]
    rw [Int.toNat_natCast, Int.natAbs_natCast]
    exact Nat.lt_of_le_of_lt hn Nat.lt_log2_self
theorem bits_le {m : Int} {b : Nat} (h1 : 1 ≤ m) (h : m ≤ 2 ^ b) : bitsOf m ≤ (b : Int) := by
  unfold bitsOf Builtin.Int.intBits
  obtain ⟨k, hk⟩ := Int.eq_ofNat_of_zero_le (show 0 ≤ m - 1 by omega)
  rw [hk]
  by_cases c : k = 0
  · subst c
    exact Int.natCast_nonneg b
  · rw [if_neg (by simpa using c)]
    have cast : (2 : Int) ^ b = ((2 ^ b : Nat) : Int) := by
      rw [Int.natCast_pow]
      rfl
    rw [cast] at h
    have := (Nat.log2_lt c).mpr (show k < 2 ^ b by omega)
    rw [Int.natAbs_natCast]
    omega
theorem zfill_is {n w : Nat} (hw : w ≠ 0) (h : n < 2 ^ w) : Txt.zfill (binS n) (w : Int) = ⟨(nbL n w).toArray⟩ := by
  have hl : (binS n).length = (bins n).length := by
    unfold binS bins Str.length
    simp
  have hle := bins_len (by omega) h
  have hpos := bins_pos n
  have hd := (bins_ok n).1
  unfold Txt.zfill nbL
  rw [if_neg hw, hl]
  by_cases c : (w : Int) ≤ ((bins n).length : Nat)
  · rw [if_pos c]
    have e : w - (bins n).length = 0 := by omega
    rw [e]
    rfl
  · rw [if_neg c, Int.toNat_natCast]
    have hb : binS n = ⟨(bins n).toArray⟩ := rfl
    rw [hb]
    unfold zfilled
    cases hc : bins n with
    | nil =>
      rw [hc] at hpos
      exact absurd hpos (by decide)
    | cons x r =>
      have hx := hd x (by rw [hc]; exact List.mem_cons_self ..)
      rcases hx with rfl | rfl
      · show Builtin.Str.padded _ _ 0 48 = _
        unfold Builtin.Str.padded
        simp
      · show Builtin.Str.padded _ _ 0 48 = _
        unfold Builtin.Str.padded
        simp
theorem pad_ok {n : Nat} (h : n ≤ 1000) : PadOk (n : Int) = true := by
  have k : ∀ m : Nat, m ≤ 1000 → PadOk (m : Int) = true := by decide +kernel
  exact k n h
theorem q_forS {z : Str} {te : TE} {tb tz : TS} {D : Ends} {σ : L2.St} {H : Hp} {j : Nat} (h : Ev te σ H (.str z)) (Pv : Nat → L2.St → Hp → Prop) (h0 : ∀ H1, Ex H H1 → Pv 0 σ H1)
    (hs : ∀ i c σ' H', z.cps.toList[i]? = some c → Pv i σ' H' → tb { D with nx := Pv (i + 1), ct := Pv (i + 1), bk := tz D } (σ'.set j (some (.str ⟨#[c]⟩))) H') (hd : ∀ σ' H', Pv z.cps.size σ' H' → tz D σ' H') :
    tSeq (tFor (iStr te) (gName j) tb) tz D σ H := by
  refine h H (Ex.refl H) _ fun H1 e1 => ⟨z, rfl, ?_⟩
  refine for_it (D := { D with nx := tz D }) (walk_str (z := z)) Pv (h0 H1 e1) (fun _ _ _ _ _ => trivial) ?_ hd
  intro i x σ' H2 H3 _ p y
  obtain ⟨rfl, c, hc, rfl⟩ := y
  refine hs i c σ' _ ?_ p
  rw [Array.getElem?_toList]
  exact hc
theorem one_code {c d : Nat} : (V.str ⟨#[c]⟩ = V.str ⟨#[d]⟩) ↔ c = d := by
  constructor
  · intro h
    have h2 := V.str.inj h
    have h3 := congrArg (fun s : Str => s.cps.toList) h2
    simpa using h3
  · intro h
    rw [h]
theorem str0 : Str.ofString "0" = (⟨#[48]⟩ : Str) := by decide +kernel
theorem str1 : Str.ofString "1" = (⟨#[49]⟩ : Str) := by decide +kernel
/-! ### more words for readings -/
section
variable {σ : L2.St} {H : Hp} {ta tb : TE}
theorem rcl_list {p : Addr} {xs : List V} (h : SqL K H p xs) : RCL (fun vs H Q => ∃ p ys, vs = [V.ref p] ∧ (SqL K H p ys ∨ SqT K H p ys) ∧ ∀ l, H l = none → Q (V.ref l) (upd H l (.lst ys))) [.ref p] H xs := fun H1 e Q q =>
  ⟨p, xs, rfl, .inl (ex_l e h), fun l hl => q l _ hl (Ex.new hl) upd_same⟩
theorem el_rep {xs : List V} {n : Nat} (h : EvL ta σ H xs) (hk : ∀ H1, Ex H H1 → Ev tb σ H1 (.int (n : Int))) (hz : xs.length * n ≤ 100000) (hn : n ≤ 100000) : EvL (tOp rRep ta tb) σ H (List.replicate n xs).flatten := fun H1 e Q q =>
  h H1 e _ fun p H2 hp e2 h2 => hk H2 (e.trans e2) H2 (Ex.refl H2) _ fun H3 e3 =>
    ⟨p, (n : Int), xs, rfl, rfl, e3 _ _ h2, by omega, by omega, by rw [Int.toNat_natCast]; exact sz_of hz, fun l hl => by
      rw [Int.toNat_natCast]
      exact q l _ (fresh_back (e2.trans e3) hl) ((e2.trans e3).trans (Ex.new hl)) upd_same⟩
theorem flat_one {n : Nat} {v : V} : (List.replicate n [v]).flatten = List.replicate n v := by
  induction n with
  | zero => rfl
  | succ n ih =>
    rw [List.replicate_succ, List.flatten_cons, ih]
    rfl
theorem map_rep {n : Nat} {z : Int} : (List.replicate n z).map V.int = List.replicate n (V.int z) := List.map_replicate
theorem el_catV {xs ys : List V} {b : Addr} (h : EvL ta σ H xs) (hb : ∀ H1, Ex H H1 → Ev tb σ H1 (.ref b)) (hy : H b = some (.lst ys)) (hz : xs.length + ys.length ≤ 100000) : EvL (tOp rCat ta tb) σ H (xs ++ ys) := fun H1 e Q q =>
  h H1 e _ fun p H2 hp e2 h2 => hb H2 (e.trans e2) H2 (Ex.refl H2) _ fun H3 e3 =>
    ⟨p, b, xs, ys, rfl, rfl, e3 _ _ h2, (((e.trans e2).trans e3)) _ _ hy, sz_of hz, fun l hl => q l _ (fresh_back (e2.trans e3) hl) ((e2.trans e3).trans (Ex.new hl)) upd_same⟩
theorem el_catL {xs ys : List V} (h : EvL ta σ H xs) (hb : EvL tb σ H ys) (hz : xs.length + ys.length ≤ 100000) : EvL (tOp rCat ta tb) σ H (xs ++ ys) := fun H1 e Q q =>
  h H1 e _ fun p H2 hp e2 h2 => hb H2 (e.trans e2) _ fun p2 H3 hp2 e3 h3 =>
    ⟨p, p2, xs, ys, rfl, rfl, e3 _ _ h2, h3, sz_of hz, fun l hl => q l _ (fresh_back (e2.trans e3) hl) ((e2.trans e3).trans (Ex.new hl)) upd_same⟩
theorem et_yes : EvT tYes σ H true := fun H1 _ _ q => q H1 (Ex.refl H1)
theorem given_all (n : Nat) (v : Nat → V) : given n (fun _ => true) v = (List.range n).map v := by
  unfold given
  rw [List.filter_eq_self.mpr fun _ _ => rfl]
/-- the data of a list of ints -/
theorem dp_ints : ∀ ns : List Int, DpAll K H (ns.map V.int) (ns.map PyData.int)
  | [] => .nil
  | n :: ns => .cons (.int n) (dp_ints ns)
theorem lay_ints : ∀ ns : List Int, PyData.canLayAll0 (ns.map PyData.int) = true
  | [] => by simp [PyData.canLayAll0]
  | n :: ns => by simp [PyData.canLayAll0, PyData.canLay0, lay_ints ns]
theorem deep_ints : ∀ ns : List Int, PyData.depthAll (ns.map PyData.int) = 0
  | [] => by simp [PyData.depthAll]
  | n :: ns => by simp [PyData.depthAll, PyData.depth, deep_ints ns]
theorem shaped_list_of_ints (ns : List Int) : SeqAt.shaped (.list (ns.map PyData.int)) = true := by
  show (PyData.canLay0 _ && decide (PyData.depth _ ≤ 64)) = true
  simp [PyData.canLay0, PyData.depth, lay_ints ns, deep_ints ns]
theorem rv_neInts {p q : Addr} {ns : List Int} (h1 : SqL K H p (ns.map V.int)) (h2 : SqL K H q (ns.map V.int)) : RV (rNeD K) (.ref p) (.ref q) H (.bl false) := fun H1 e Q k => by
  refine ⟨.list (ns.map PyData.int), .list (ns.map PyData.int), .lst (ex_l e h1) (dp_ints ns), .lst (ex_l e h2) (dp_ints ns), shaped_list_of_ints ns, shaped_list_of_ints ns, ?_⟩
  have r : PyData.eqv (.list (ns.map PyData.int)) (.list (ns.map PyData.int)) = true := SeqAt.eqv_refl _ (SeqAt.canLay_of_shaped (shaped_list_of_ints ns))
  rw [r]
  exact k H1 (Ex.refl H1)
end
theorem cut_to (xs : List V) (n : Nat) : cutV xs none (some (n : Int)) = xs.take n := by
  unfold cutV
  rw [HT.sIx_none, HT.sIx_nat]
  simp only [Nat.sub_zero, List.drop_zero]
  by_cases h : n ≤ xs.length
  · rw [Nat.min_eq_left h]
  · rw [Nat.min_eq_right (by omega), List.take_length, List.take_of_length_le (by omega)]
theorem cut_of (xs : List V) (a b : Nat) : ∃ k m, cutV xs (some (a : Int)) (some (b : Int)) = (xs.drop k).take m := by
  unfold cutV
  rw [HT.sIx_nat, HT.sIx_nat]
  exact ⟨_, _, rfl⟩
theorem at0_rep {z : Int} {n i : Nat} (h : i < n) : at0 (List.replicate n z) i = z := by
  unfold at0
  rw [List.getD_eq_getElem?_getD, List.getElem?_replicate, if_pos h]
  rfl
theorem at0_of_mem {ps : List Int} {x : Int} (h : x ∈ ps) : ∃ i, i < ps.length ∧ at0 ps i = x := by
  obtain ⟨i, hi, e⟩ := List.mem_iff_getElem.mp h
  refine ⟨i, hi, ?_⟩
  unfold at0
  rw [List.getD_eq_getElem?_getD, List.getElem?_eq_getElem hi]
  exact e
def restF (c : Int) (ss : List Int) : Nat → Int
  | 0 => c - 10 ^ 18
  | i + 1 => restF c ss i / at0 ss i
def digA (c : Int) (ss : List Int) (i : Nat) : Int := restF c ss i % at0 ss i
def sdF (c : Int) : Nat → Int
  | 0 => c % 2147483629
  | i + 1 => (sdF c i * 48271 + 974711 * i + 12345) % 2147483647
def twF (c : Int) (i : Nat) : Int := (sdF c (i + 1) * (sdF c (i + 1) / 65537 + 3)) % 2147483629
def digB (c : Int) (ss : List Int) (i : Nat) : Int := twF c i / 19 % at0 ss i
def dig (c : Int) (ss : List Int) (i : Nat) : Int := if 10 ^ 18 ≤ c then digA c ss i else digB c ss i
def digits (c : Int) (ss : List Int) : List Int := (List.range ss.length).map (dig c ss)
theorem digits_len (c : Int) (ss : List Int) : (digits c ss).length = ss.length := by
  unfold digits
  rw [List.length_map, List.length_range]
theorem at0_map {n i : Nat} (f : Nat → Int) (h : i < n) : at0 ((List.range n).map f) i = f i := by
  unfold at0
  rw [List.getD_eq_getElem?_getD, List.getElem?_map, List.getElem?_range h]
  rfl
theorem dig_bound {c : Int} {ss : List Int} {i : Nat} (h : 0 < at0 ss i) : 0 ≤ dig c ss i ∧ dig c ss i < at0 ss i := by
  unfold dig digA digB
  split
  · exact ⟨Int.emod_nonneg _ (by omega), Int.emod_lt_of_pos _ h⟩
  · exact ⟨Int.emod_nonneg _ (by omega), Int.emod_lt_of_pos _ h⟩
theorem digits_at {c : Int} {ss : List Int} {i : Nat} (hi : i < ss.length) (h : 0 < at0 ss i) : 0 ≤ at0 (digits c ss) i ∧ at0 (digits c ss) i < at0 ss i := by
  unfold digits
  rw [at0_map _ hi]
  exact dig_bound h
theorem sd_bound (c : Int) : ∀ i, 0 ≤ sdF c i ∧ sdF c i < 2147483647
  | 0 => by
    show 0 ≤ c % 2147483629 ∧ c % 2147483629 < 2147483647
    omega
  | i + 1 => by
    show 0 ≤ (sdF c i * 48271 + 974711 * i + 12345) % 2147483647 ∧ (sdF c i * 48271 + 974711 * i + 12345) % 2147483647 < 2147483647
    omega
theorem map_range_succ (f : Nat → Int) (n : Nat) : ((List.range (n + 1)).map f).map V.int = ((List.range n).map f).map V.int ++ [V.int (f n)] := by
  rw [List.range_succ, List.map_append, List.map_append]
  rfl
def spDigits (K : PySem.W.Frag) : Sp := fun vs H Q _ => ∃ (c : Int) (a : Addr) (ss : List Int), vs = [.int c, .ref a] ∧ SqL K H a (ss.map V.int) ∧ ss.length ≤ 1000 ∧ (∀ i, i < ss.length → 0 < at0 ss i ∧ at0 ss i < 18446744073709551616) ∧ RetL ((digits c ss).map V.int) H Q
def spWhole : Sp := fun vs H Q _ => ∃ n : Int, vs = [.int n] ∧ RetV (.bl true) H Q
def seedF (ns : List Int) : Nat → Int
  | 0 => 17
  | i + 1 => (seedF ns i * 31 + at0 ns i % 1000003) % 1000003
def cell (ns : List Int) (k : Int) : Int := if k < (ns.length : Int) then at0 ns k.toNat else ((seedF ns ns.length + 7) * (k + 3) * 69621) % 2147483647
def spCell (K : PySem.W.Frag) : Sp := fun vs H Q _ => ∃ (a : Addr) (ns : List Int) (k : Int), vs = [.ref a, .int k] ∧ SqL K H a (ns.map V.int) ∧ ns.length ≤ 63 ∧ (0 ≤ k ∧ k ≤ 1000) ∧ RetV (.int (cell ns k)) H Q
theorem sv_whole {n : Int} {H : Hp} : SpV spWhole ([V.int n] ++ []) H (.bl true) := fun _ _ _ q _ => ⟨n, rfl, q⟩
theorem sv_cell {a : Addr} {ns : List Int} {k : Int} {H : Hp} (hS : SqL K H a (ns.map V.int)) (h : ns.length ≤ 63) (hk : 0 ≤ k ∧ k ≤ 1000) : SpV (spCell K) ([V.ref a, V.int k] ++ []) H (.int (cell ns k)) := fun _ e _ q _ => ⟨a, ns, k, rfl, ex_l e hS, h, hk, q⟩
theorem sl_digits {c : Int} {a : Addr} {ss : List Int} {H : Hp} (hS : SqL K H a (ss.map V.int)) (hz : ss.length ≤ 1000) (hss : ∀ i, i < ss.length → 0 < at0 ss i ∧ at0 ss i < 18446744073709551616) : SpL (spDigits K) ([V.int c, V.ref a] ++ []) H ((digits c ss).map V.int) := fun _ e _ q _ => ⟨c, a, ss, rfl, ex_l e hS, hz, hss, q⟩
section
variable {σ : L2.St} {H : Hp} {ta tl : TE} {sp : Sp} {E : XK} {tz : TS} {D : Ends}
theorem el_digs {c : Int} {ss : List Int} (h : Ev ta σ H (.int c)) (hl : EvL tl σ H (ss.map V.int)) (hz : ss.length ≤ 1000) (hss : ∀ i, i < ss.length → 0 < at0 ss i ∧ at0 ss i < 18446744073709551616) : EvL (tCall (spDigits K) [] E (tCons ta (tCons tl tNil))) σ H ((digits c ss).map V.int) := fun H1 e Q q =>
  h H1 e _ fun H2 e2 => hl H2 (e.trans e2) _ fun p H3 hp e3 h3 => ⟨c, p, ss, rfl, sq_of h3, hz, hss, fun l H4 hl4 e4 h4 => q l H4 (fresh_back (e2.trans e3) hl4) ((e2.trans e3).trans e4) h4⟩
theorem ev_call2L {x z : V} {xs dvs : List V} (h : Ev ta σ H x) (hl : EvL tl σ H xs) (hs : ∀ p H1, Ex H H1 → H1 p = some (.lst xs) → SpV sp ([x, .ref p] ++ dvs) H1 z) : Ev (tCall sp dvs E (tCons ta (tCons tl tNil))) σ H z := fun H1 e Q q =>
  h H1 e _ fun H2 e2 => hl H2 (e.trans e2) _ fun p H3 hp e3 h3 => hs p H3 ((e.trans e2).trans e3) h3 H3 (Ex.refl H3) Q (fun H4 e4 => q H4 ((e2.trans e3).trans e4)) E
theorem ev_call1L {y z : V} {xs dvs : List V} (hl : EvL tl σ H xs) (h : ∀ H1, Ex H H1 → Ev ta σ H1 y) (hs : ∀ p H1, Ex H H1 → H1 p = some (.lst xs) → SpV sp ([.ref p, y] ++ dvs) H1 z) : Ev (tCall sp dvs E (tCons tl (tCons ta tNil))) σ H z := fun H1 e Q q =>
  hl H1 e _ fun p H2 hp e2 h2 => h H2 (e.trans e2) H2 (Ex.refl H2) _ fun H3 e3 => hs p H3 ((e.trans e2).trans e3) (e3 _ _ h2) H3 (Ex.refl H3) Q (fun H4 e4 => q H4 ((e2.trans e3).trans e4)) E
theorem ev_callL {z : V} {xs dvs : List V} (hl : EvL tl σ H xs) (hs : ∀ p H1, Ex H H1 → H1 p = some (.lst xs) → SpV sp ([.ref p] ++ dvs) H1 z) : Ev (tCall sp dvs E (tCons tl tNil)) σ H z := fun H1 e Q q =>
  hl H1 e _ fun p H2 hp e2 h2 => hs p H2 (e.trans e2) h2 H2 (Ex.refl H2) Q (fun H4 e4 => q H4 (e2.trans e4)) E
theorem el_slN {xs : List V} {t1 t2 : TO} {lo hi : Option Int} (h : EvL tl σ H xs) (h1 : ∀ H1, Ex H H1 → EvO t1 σ H1 lo) (h2 : ∀ H1, Ex H H1 → EvO t2 σ H1 hi) : EvL (tSl (rSlL K) tl t1 t2) σ H (cutV xs lo hi) := fun H1 e Q q =>
  h H1 e _ fun p H2 hp e2 hx => h1 H2 (e.trans e2) H2 (Ex.refl H2) _ fun H3 e3 => h2 H3 ((e.trans e2).trans e3) H3 (Ex.refl H3) _ fun H4 e4 =>
    ⟨p, xs, rfl, sq_of (e4 _ _ (e3 _ _ hx)), fun l hl => q l _ (fresh_back ((e2.trans e3).trans e4) hl) (((e2.trans e3).trans e4).trans (Ex.new hl)) upd_same⟩
theorem q_callD {ta : TA} {vs dvs : List V} {i : Nat} (h : EvA ta σ H vs) (k : ∀ H1, Ex H H1 → sp (vs ++ dvs) H1 (fun x H2 => tz D (σ.set i (some x)) H2) E) : tSeq (tAsg (tCall sp dvs E ta) (gName i)) tz D σ H := h H (Ex.refl H) _ k
end
def spLw : Sp := fun vs H Q _ => ∃ n : Int, vs = [.int n] ∧ 1 ≤ n ∧ n ≤ 2 ^ 2100 ∧ RetV (.int (bitsOf n)) H Q
theorem sv_lw {n : Int} {H : Hp} (h1 : 1 ≤ n) (h2 : n ≤ 2 ^ 2100) : SpV spLw ([V.int n] ++ []) H (.int (bitsOf n)) := fun _ _ _ q _ => ⟨n, rfl, h1, h2, q⟩
def spNb : Sp := fun vs H Q _ => ∃ n m : Int, vs = [.int n, .int m] ∧ 0 ≤ n ∧ n < m ∧ m ≤ 2 ^ 1000 ∧ RetV (.str (nb n m)) H Q
theorem sv_nb {n m : Int} {H : Hp} (h0 : 0 ≤ n) (h1 : n < m) (h2 : m ≤ 2 ^ 1000) : SpV spNb ([V.int n, V.int m] ++ []) H (.str (nb n m)) := fun _ _ _ q _ => ⟨n, m, rfl, h0, h1, h2, q⟩
def spWidth : Sp := fun vs H Q _ => ∃ n : Int, vs = [.int n] ∧ RetV (.int (bitsOf n)) H Q
theorem sv_width {n : Int} {H : Hp} : SpV spWidth ([V.int n] ++ []) H (.int (bitsOf n)) := fun _ _ _ q _ => ⟨n, rfl, q⟩
end
end Ver
namespace Ver
open PySem PySem.Spec PyProof.Rows L2 Evl
open PySem.Builtin PySem.Builtin.Str
/-! ### texts as lists of codes -/
abbrev tx (l : List Nat) : V := .str (SX.S l)
theorem tx_inj {a b : List Nat} (h : tx a = tx b) : a = b := SX.S_inj (V.str.inj h)
theorem tx_dec {a b : List Nat} : decide (tx a = tx b) = decide (a = b) := decide_eq_decide.mpr ⟨tx_inj, fun h => by rw [h]⟩
theorem stripLo_all {goes : Nat → Bool} {l : List Nat} (h : ∀ c ∈ l, goes c = true) : stripLo goes true (SX.S l) = l.length := by
  unfold stripLo
  rw [if_pos rfl]
  show (l.takeWhile goes).length = _
  rw [List.takeWhile_eq_filter_of_all h]
where
  List.takeWhile_eq_filter_of_all {goes : Nat → Bool} {l : List Nat} (h : ∀ c ∈ l, goes c = true) : l.takeWhile goes = l := by
    induction l with
    | nil => rfl
    | cons a r ih =>
      rw [List.takeWhile_cons, if_pos (h a (List.mem_cons_self ..)), ih fun c hc => h c (List.mem_cons_of_mem _ hc)]
theorem strip_to {goes : Nat → Bool} {r : Bool} {l : List Nat} (h : ∀ c ∈ l, goes c = true) : Txt.stripBy goes true r (SX.S l) = SX.S [] := by
  have hlo := stripLo_all h
  unfold Txt.stripBy stripSame stripped
  rw [hlo]
  have hhi : stripHi goes r (SX.S l) l.length = l.length := by
    unfold stripHi
    rw [SX.S_len]
    have e : (SX.S l).cps.toList.drop l.length = [] := List.drop_length
    rw [e]
    cases r <;> rfl
  rw [hhi, SX.S_len]
  cases l with
  | nil => rfl
  | cons a t =>
    rw [if_neg (by simp)]
    unfold strSub
    rw [← SX.S_tl ((⟨(SX.S (a :: t)).cps.extract (a :: t).length (a :: t).length⟩ : Str))]
    congr 1
    simp
theorem has_contains {l m : List Nat} (h : ∀ c ∈ l, c ∈ m) : ∀ c ∈ l, (SX.S m).cps.contains c = true := fun c hc => by
  have := h c hc
  simpa using this
theorem strip_chars {l m : List Nat} (h : ∀ c ∈ l, c ∈ m) : Txt.stripChars (SX.S l) (SX.S m) = SX.S [] := strip_to (has_contains h)
theorem lstrip_chars {l m : List Nat} (h : ∀ c ∈ l, c ∈ m) : Txt.lstripChars (SX.S l) (SX.S m) = SX.S [] := strip_to (has_contains h)
theorem occ_mem (s sub : Str) (hi lim : Nat) : ∀ (l : List Nat) (st : Array Nat × Nat) (k : Nat), k ∈ (forIn l st (StrLaws.occBody s sub hi lim)).run.fst.toList → k ∈ st.fst.toList ∨ (k + sub.length ≤ hi ∧ subAt s sub k = true)
  | [], st, k, h => .inl h
  | a :: l, st, k, h => by
    rw [List.forIn_cons] at h
    unfold StrLaws.occBody at h
    split at h
    · rename_i c
      rcases occ_mem s sub hi lim l _ k h with q | q
      · have q2 : k ∈ st.fst.toList ++ [a] := by simpa using q
        rcases List.mem_append.mp q2 with z | z
        · exact .inl z
        · rw [List.mem_singleton.mp z]
          exact .inr ⟨c.1.2, c.2⟩
      · exact .inr q
    · exact occ_mem s sub hi lim l _ k h
/-- the one place of a sign in a text without repeats -/
theorem index_one {l : List Nat} {c i : Nat} (nd : l.Nodup) (h : l[i]? = some c) : ∃ rest, occurrences (SX.S l) (SX.S [c]) 0 (SX.S l).length 1 = i :: rest := by
  have f := StrLaws.found_one (SX.S l) c
  have hm : c ∈ l := List.mem_of_getElem? h
  have e : (⟨#[c]⟩ : Str) = SX.S [c] := rfl
  rw [e] at f
  rw [show decide (c ∈ (SX.S l).cps.toList) = true from decide_eq_true hm] at f
  cases ho : occurrences (SX.S l) (SX.S [c]) 0 (SX.S l).length 1 with
  | nil =>
    rw [ho] at f
    cases f
  | cons j rest =>
    have hj : j ∈ occurrences (SX.S l) (SX.S [c]) 0 (SX.S l).length 1 := by
      rw [ho]
      exact List.mem_cons_self ..
    rw [StrLaws.occ_eq] at hj
    rcases occ_mem _ _ _ _ _ _ _ hj with z | z
    · cases z
    · have g := (StrLaws.subAt_one (SX.S l) c j).mp z
      have g2 : l[j]? = some c := g
      obtain ⟨h1, e1⟩ := List.getElem?_eq_some_iff.mp h
      obtain ⟨h2, e2⟩ := List.getElem?_eq_some_iff.mp g2
      have : i = j := (List.getElem_inj nd).mp (e1.trans e2.symm)
      subst this
      exact ⟨rest, rfl⟩
theorem starts_S {a b : List Nat} : Txt.startswith (SX.S a) (SX.S b) = decide (b <+: a) := by
  unfold Txt.startswith
  rw [StrLaws.subAt_eq, SX.S_len, SX.S_len]
  show (decide (0 + b.length ≤ a.length) && ((a.drop 0).take b.length == b)) = _
  rw [List.drop_zero, Nat.zero_add, Bool.eq_iff_iff, Bool.and_eq_true, decide_eq_true_eq, beq_iff_eq, decide_eq_true_eq]
  constructor
  · intro h
    rw [← h.2]
    exact List.take_prefix _ _
  · intro h
    exact ⟨h.length_le, (List.prefix_iff_eq_take.mp h).symm⟩
/-! ### text * n -/
theorem foldl_reps (l : List Nat) : ∀ (n : Nat) (acc : Array Nat), ((List.replicate n l.toArray).foldl (· ++ ·) acc).toList = acc.toList ++ (List.replicate n l).flatten
  | 0, acc => by simp
  | n + 1, acc => by
    rw [List.replicate_succ, List.foldl_cons, foldl_reps l n, List.replicate_succ, List.flatten_cons]
    simp
theorem mul_S {l : List Nat} {n : Nat} : Txt.mul (SX.S l) (n : Int) = SX.S (List.replicate n l).flatten := by
  unfold Txt.mul
  by_cases h : (n : Int) < 1
  · rw [if_pos h]
    have : n = 0 := by omega
    subst this
    rfl
  · rw [if_neg h]
    by_cases c : ((n : Int) == 1 || (SX.S l).length == 0) = true
    · rw [if_pos c]
      rw [SX.S_len, Bool.or_eq_true, beq_iff_eq, beq_iff_eq] at c
      rcases c with c | c
      · have : n = 1 := by omega
        subst this
        simp
      · have : l = [] := List.eq_nil_of_length_eq_zero c
        subst this
        have e : (List.replicate n ([] : List Nat)).flatten = [] := by simp
        rw [e]
    · rw [if_neg c, Int.toNat_natCast]
      have e := foldl_reps l n #[]
      rw [← SX.S_tl ((⟨(List.replicate n (SX.S l).cps).foldl (· ++ ·) #[]⟩ : Str))]
      congr 1
def rMulS : R2 := fun x y H Q => ∃ (l : List Nat) (n : Nat), x = tx l ∧ y = .int (n : Int) ∧ n ≤ 100000 ∧ l.length * n ≤ 100000 ∧ Q (tx (List.replicate n l).flatten) H
theorem mul_ok {l : List Nat} {n : Nat} (h1 : n ≤ 100000) (h2 : l.length * n ≤ 100000) : MulOk (SX.S l) (n : Int) := by
  refine ⟨?_, fun h c => ?_, fun h c => ?_⟩
  · have a : ¬ (n : Int) < -(2 ^ 63 : Int) := by omega
    have b : ¬ (n : Int) ≥ 2 ^ 63 := by omega
    rw [decide_eq_false a, decide_eq_false b]
    rfl
  · rw [SX.S_len]
    have hn : 0 < (n : Int) := by omega
    have e : ((l.length : Int) * n) ≤ 100000 := by
      rw [← Int.natCast_mul]
      omega
    have k : (l.length : Int) ≤ (2 ^ 63 - 1) / n := (Int.le_ediv_iff_mul_le hn).mpr (by omega)
    omega
  · rw [SX.S_len, Int.toNat_natCast]
    unfold tooLong
    have := sz_of h2
    exact decide_eq_false (by omega)
theorem op_mulS {X : Cx} : OpR X (binaryOp .Mult) rMulS := by
  intro pins s σ H x y v u Q I rx ry h
  obtain ⟨l, n, rfl, rfl, h1, h2, q⟩ := h
  obtain ⟨t, rfl⟩ := rx
  obtain ⟨t', rfl⟩ := ry
  refine SB.mul (mul_ok h1 h2) fun t2 k => ?_
  rw [mul_S]
  exact ⟨tx _, H, I.tok _, ⟨_, rfl⟩, q⟩
/-! ### text[::-1] -/
theorem pe_revS {X : Cx} {e : Expr} {te : TE} {k : Nat} {p1 p2 p3 pos : Pos} (he : PE X e te) : PE X (.Subscript e (.Slice none none (some (.UnaryOp .USub (.Constant (.int 1) k p1) p2)) p3) pos) (tRevS te) := by
  refine ⟨fun pins s σ H Q I h => ?_⟩
  refine Subscript_ (thn (he.run pins s σ H _ I h) fun v s1 ⟨x, H1, I1, r1, q1⟩ => ?_)
  obtain ⟨z, ex, hz, q⟩ := q1
  subst ex
  obtain ⟨t, rfl⟩ := r1
  have hst : PO X (some (.UnaryOp .USub (.Constant (.int 1) k p1) p2)) (tPart (tUn (rU fun i => .int (-i)) (tC (.int 1)))) := po_some (pe_un un_neg pe_int)
  refine wpAny_Slice (thn (po_none.run pins s1 σ H1 (fun o H2 => o = none ∧ H2 = H1) I1 ⟨rfl, rfl⟩) fun vl s2 ⟨l, H2, I2, pl, el, e2⟩ => ?_)
  subst el e2
  refine thn (po_none.run pins s2 σ H2 (fun o H3 => o = none ∧ H3 = H2) I2 ⟨rfl, rfl⟩) fun vu s3 ⟨u, H3, I3, pu, eu, e3⟩ => ?_
  subst eu e3
  refine thn (hst.run pins s3 σ H3 (fun o H4 => o = some (-1) ∧ H4 = H3) I3 ⟨1, rfl, -1, rfl, rfl, rfl⟩) fun vs s4 ⟨o, H4, I4, ps, eo, e4⟩ => ?_
  subst eo e4
  have I5 : Inv X pins σ H4 { s4 with heap := s4.heap.push { cls := .type "slice", data := .fields #[vl, vu, vs] } } := I4.kept (t' := s4.toks) fun b ob q => Heap.get?_push_of_some _ q
  obtain ⟨l, rfl, hl⟩ := IsPart.raw pl
  obtain ⟨u, rfl, hu⟩ := IsPart.raw pu
  obtain ⟨w, rfl, hw⟩ := IsPart.raw ps
  cases l with
  | some l => cases hl
  | none =>
  cases u with
  | some u => cases hu
  | none =>
  cases w with
  | none => cases hw
  | some w =>
  obtain ⟨w1, w2⟩ := w
  have ew : w1 = -1 := by
    have : some w1 = some (-1 : Int) := hw
    exact Option.some.inj this
  subst ew
  refine tail_any (ops := [.ref s4.heap.objs.size, .str z t]) (typeIs_str _ _ _) F.slot_str_getitem.lookup ?_ (by with_unfolding_all rfl)
  refine wpAny_getItem_str_slice (l := none) (u := none) (st := some (-1, w2)) ⟨_, Heap.get?_push_size _ rfl, rfl, rfl⟩ rfl ?_
  have hc : ¬ ((((some ((-1 : Int), w2)).map (·.1)).getD 1 == 1 && (slicePicked z none none (some (-1, w2))).length == z.length) = true) := by
    have : (((some ((-1 : Int), w2)).map (·.1)).getD 1 == 1) = false := rfl
    rw [this]
    simp
  have hl := step_rev_list z w2
  have hn := step_rev_len z w2
  unfold Txt.sliceBy at hl hn
  rw [if_neg hc] at hl hn
  unfold sliceMade
  rw [if_neg hc]
  refine ⟨?_, .str _, H4, I5.tok _, ⟨_, rfl⟩, q _ ?_ (Nat.le_of_eq hn)⟩
  · show (⟨((slicePicked z none none (some (-1, w2))).filterMap (z.cps[·]?)).toArray⟩ : Str).length ≤ sizeLine
    rw [hn]
    exact hz
  · intro c hcm
    rw [hl] at hcm
    obtain ⟨k, hk, rfl⟩ := List.mem_map.mp hcm
    have hk' := List.mem_range.mp hk
    have hlt : z.length - 1 - k < z.cps.size := by
      have : z.length = z.cps.size := rfl
      omega
    have e : z.cps.getD (z.length - 1 - k) 0 = z.cps[z.length - 1 - k] := by simp [Array.getD, hlt]
    rw [e]
    simp
end Ver
namespace Ver
/-! ### numbers of a list in a stretch -/
theorem card_le : ∀ (n a : Nat) (T : List Nat), T.Nodup → (∀ x ∈ T, a ≤ x ∧ x < a + n) → T.length ≤ n
  | 0, a, T, _, h => by
    cases T with
    | nil => exact Nat.le_refl 0
    | cons x r =>
      have := h x (List.mem_cons_self ..)
      omega
  | n + 1, a, T, nd, h => by
    by_cases hm : a + n ∈ T
    · have e := List.length_erase_of_mem hm
      have ih := card_le n a (T.erase (a + n)) (nd.erase _) fun x hx => by
        have h1 := h x (List.mem_of_mem_erase hx)
        have h2 : x ≠ a + n := fun q => by
          rw [q] at hx
          exact nd.not_mem_erase hx
        omega
      omega
    · have ih := card_le n a T nd fun x hx => by
        have h1 := h x hx
        have h2 : x ≠ a + n := fun q => hm (q ▸ hx)
        omega
      omega
/-- how many of T are below v -/
def bel (T : List Nat) (v : Nat) : Nat := T.countP (fun x => decide (x < v))
theorem bel_le {T : List Nat} (nd : T.Nodup) (v : Nat) : bel T v ≤ v := by
  unfold bel
  rw [List.countP_eq_length_filter]
  have := card_le v 0 (T.filter fun x => decide (x < v)) (nd.filter _) fun x hx => by
    have := of_decide_eq_true (List.mem_filter.mp hx).2
    omega
  exact this
theorem bel_step {T : List Nat} (nd : T.Nodup) {x y : Nat} (h : x < y) (hx : x ∉ T) : bel T y ≤ bel T x + (y - x - 1) := by
  have e : bel T y = bel T x + (T.filter fun z => decide (x < z ∧ z < y)).length := by
    unfold bel
    rw [← List.countP_eq_length_filter]
    clear nd
    induction T with
    | nil => rfl
    | cons a r ih =>
      have ih := ih fun q => hx (List.mem_cons_of_mem _ q)
      have ha : a ≠ x := fun q => hx (q ▸ List.mem_cons_self ..)
      rw [List.countP_cons, List.countP_cons, List.countP_cons, ih]
      by_cases c1 : a < x
      · rw [if_pos (decide_eq_true (show a < y by omega)), if_pos (decide_eq_true c1), if_neg (by simp; omega)]
        omega
      · by_cases c2 : a < y
        · rw [if_pos (decide_eq_true c2), if_neg (by simpa using c1), if_pos (decide_eq_true (show x < a ∧ a < y by omega))]
          omega
        · rw [if_neg (by simpa using c2), if_neg (by simpa using c1), if_neg (by simp; omega)]
          omega
  have := card_le (y - x - 1) (x + 1) (T.filter fun z => decide (x < z ∧ z < y)) (nd.filter _) fun z hz => by
    have := of_decide_eq_true (List.mem_filter.mp hz).2
    omega
  omega
/-- the free number of x among those that T leaves is below that of y -/
theorem bel_lt {T : List Nat} (nd : T.Nodup) {x y : Nat} (h : x < y) (hx : x ∉ T) : x - bel T x < y - bel T y := by
  have h1 := bel_step nd h hx
  have h2 := bel_le nd x
  omega
theorem bel_all {T : List Nat} {v : Nat} (h : ∀ x ∈ T, x < v) : bel T v = T.length := by
  unfold bel
  exact List.countP_eq_length.mpr fun x hx => decide_eq_true (h x hx)
/-- x is among the free ones below v -/
theorem bel_room {T : List Nat} (nd : T.Nodup) {x v : Nat} (h : x < v) (hx : x ∉ T) (hT : ∀ z ∈ T, z < v) : x - bel T x < v - T.length := by
  have := bel_lt nd h hx
  rw [bel_all hT] at this
  exact this
/-! ### rows, pieces -/
abbrev Rw := List (Nat × Nat)
def pcs (rs : Rw) : List (List Nat) := rs.foldl (fun ps r => ps ++ [ps.getD r.1 [] ++ [r.2]]) [[]]
theorem pcs_snoc (rs : Rw) (r : Nat × Nat) : pcs (rs ++ [r]) = pcs rs ++ [(pcs rs).getD r.1 [] ++ [r.2]] := by
  unfold pcs
  rw [List.foldl_append]
  rfl
theorem snoc_ind {α : Type} {M : List α → Prop} (h0 : M []) (hs : ∀ l a, M l → M (l ++ [a])) (l : List α) : M l := by
  have h : ∀ n (l : List α), l.length = n → M l := by
    intro n
    induction n with
    | zero =>
      intro l hl
      rw [List.eq_nil_of_length_eq_zero hl]
      exact h0
    | succ n ih =>
      intro l hl
      have hne : l ≠ [] := fun q => by rw [q] at hl; cases hl
      have e := (List.dropLast_concat_getLast hne).symm
      rw [e]
      refine hs _ _ (ih _ ?_)
      rw [List.length_dropLast, hl]
      rfl
  exact h _ l rfl
theorem pcs_len (rs : Rw) : (pcs rs).length = rs.length + 1 := by
  induction rs using snoc_ind with
  | h0 => rfl
  | hs l a ih => rw [pcs_snoc, List.length_append, ih, List.length_append]; rfl
structure RowsOk (al : List Nat) (rs : Rw) : Prop where
  low : ∀ (i p c : Nat), rs[i]? = some (p, c) → p ≤ i ∧ c ∈ al
  nd : rs.Nodup
theorem RowsOk.init {al : List Nat} {rs : Rw} {r : Nat × Nat} (h : RowsOk al (rs ++ [r])) : RowsOk al rs := by
  refine ⟨fun i p c e => h.low i p c ?_, (List.nodup_append.mp h.nd).1⟩
  rw [List.getElem?_append_left (List.getElem?_eq_some_iff.mp e).1]
  exact e
theorem RowsOk.last {al : List Nat} {rs : Rw} {p c : Nat} (h : RowsOk al (rs ++ [(p, c)])) : p ≤ rs.length ∧ c ∈ al ∧ (p, c) ∉ rs := by
  have h1 := h.low rs.length p c (by simp)
  refine ⟨h1.1, h1.2, fun hm => ?_⟩
  have := (List.nodup_append.mp h.nd).2.2 (p, c) hm (p, c) (List.mem_singleton.mpr rfl)
  exact this rfl
theorem RowsOk.snoc {al : List Nat} {rs : Rw} {p c : Nat} (h : RowsOk al rs) (h1 : p ≤ rs.length) (h2 : c ∈ al) (h3 : (p, c) ∉ rs) : RowsOk al (rs ++ [(p, c)]) := by
  refine ⟨fun i q d e => ?_, List.nodup_append.mpr ⟨h.nd, by simp, ?_⟩⟩
  · by_cases hi : i < rs.length
    · rw [List.getElem?_append_left hi] at e
      exact h.low i q d e
    · rw [List.getElem?_append_right (by omega)] at e
      have hz : i - rs.length = 0 := by
        have := (List.getElem?_eq_some_iff.mp e).1
        simp at this
        omega
      rw [hz] at e
      cases e
      exact ⟨by omega, h2⟩
  · intro a ha b hb
    rw [List.mem_singleton.mp hb]
    intro q
    exact h3 (q ▸ ha)
theorem getD_mem {l : List (List Nat)} {i : Nat} (h : i < l.length) : l.getD i [] ∈ l := by
  rw [List.getD_eq_getElem?_getD, List.getElem?_eq_getElem h]
  exact List.getElem_mem h
theorem getD_inj {l : List (List Nat)} (nd : l.Nodup) {i j : Nat} (hi : i < l.length) (hj : j < l.length) (h : l.getD i [] = l.getD j []) : i = j := by
  rw [List.getD_eq_getElem?_getD, List.getD_eq_getElem?_getD, List.getElem?_eq_getElem hi, List.getElem?_eq_getElem hj] at h
  exact (List.getElem_inj nd).mp h
theorem idx_getD {l : List (List Nat)} (nd : l.Nodup) {i : Nat} (h : i < l.length) : l.idxOf (l.getD i []) = i := by
  have hm := getD_mem h
  have h1 := List.idxOf_lt_length_of_mem hm
  refine getD_inj nd h1 h ?_
  rw [List.getD_eq_getElem?_getD, List.getElem?_eq_getElem h1]
  show l[l.idxOf (l.getD i [])] = _
  exact List.getElem_idxOf h1
theorem pcs_zero (rs : Rw) : (pcs rs).getD 0 [] = [] := by
  induction rs using snoc_ind with
  | h0 => rfl
  | hs l a ih =>
    rw [pcs_snoc, List.getD_eq_getElem?_getD, List.getElem?_append_left (by rw [pcs_len]; omega), ← List.getD_eq_getElem?_getD]
    exact ih
/-- the piece of parent p with sign c is there just where the row is, and one place further on -/
theorem pcs_facts {al : List Nat} : ∀ rs : Rw, RowsOk al rs → (pcs rs).Nodup ∧ (∀ (i p c : Nat), rs[i]? = some (p, c) → (pcs rs).getD (i + 1) [] = (pcs rs).getD p [] ++ [c]) ∧
    ∀ (p c : Nat), p ≤ rs.length → ((pcs rs).getD p [] ++ [c] ∈ pcs rs ↔ (p, c) ∈ rs) := by
  intro rs
  induction rs using snoc_ind with
  | h0 =>
    intro _
    refine ⟨by simp [pcs], fun i p c h => by simp at h, fun p c hp => ?_⟩
    simp [pcs]
  | hs rs a ih =>
    intro ok
    obtain ⟨q, d⟩ := a
    obtain ⟨nd, rows, ex⟩ := ih ok.init
    obtain ⟨hq, _, hn⟩ := ok.last
    have hnew : (pcs rs).getD q [] ++ [d] ∉ pcs rs := fun h => hn ((ex q d hq).mp h)
    have hl := pcs_len rs
    have nd2 : (pcs (rs ++ [(q, d)])).Nodup := by
      rw [pcs_snoc]
      exact List.nodup_append.mpr ⟨nd, by simp, fun x hx y hy e => hnew (by rw [List.mem_singleton.mp hy] at e; exact e ▸ hx)⟩
    have old : ∀ k, k ≤ rs.length → (pcs (rs ++ [(q, d)])).getD k [] = (pcs rs).getD k [] := fun k hk => by
      rw [pcs_snoc, List.getD_eq_getElem?_getD, List.getElem?_append_left (by omega), ← List.getD_eq_getElem?_getD]
    have new : (pcs (rs ++ [(q, d)])).getD (rs.length + 1) [] = (pcs rs).getD q [] ++ [d] := by
      rw [pcs_snoc, List.getD_eq_getElem?_getD, List.getElem?_append_right (by omega), hl]
      simp
    refine ⟨nd2, fun i p c h => ?_, fun p c hp => ?_⟩
    · by_cases hi : i < rs.length
      · rw [List.getElem?_append_left hi] at h
        have hp := (ok.init.low i p c h).1
        rw [old _ (by omega), old _ (by omega)]
        exact rows i p c h
      · have hi2 : i = rs.length := by
          have := (List.getElem?_eq_some_iff.mp h).1
          simp at this
          omega
        subst hi2
        have e : (q, d) = (p, c) := by simpa using h
        cases e
        rw [new, old _ hq]
    · by_cases hp2 : p ≤ rs.length
      · rw [old _ hp2, pcs_snoc, List.mem_append, List.mem_append, ex p c hp2, List.mem_singleton, List.mem_singleton]
        refine or_congr Iff.rfl ⟨fun h => ?_, fun h => ?_⟩
        · obtain ⟨e1, e2⟩ := List.append_inj' h rfl
          have := getD_inj nd (by omega) (by omega) e1
          cases e2
          rw [this]
        · cases h
          rfl
      · have e : p = rs.length + 1 := by
          rw [List.length_append] at hp
          simp at hp
          omega
        subst e
        rw [new]
        constructor
        · intro h
          -- a piece one longer than the last one
          exfalso
          rw [pcs_snoc, List.mem_append, List.mem_singleton] at h
          rcases h with h | h
          · -- its beginning would be a piece of the old ones
            obtain ⟨j, hj, ej⟩ := List.mem_iff_getElem.mp h
            cases j with
            | zero =>
              have e0 : (pcs rs)[0] = [] := by
                have h0 : (pcs rs).getD 0 [] = [] := pcs_zero rs
                rw [List.getD_eq_getElem?_getD, List.getElem?_eq_getElem hj] at h0
                exact h0
              rw [e0] at ej
              simp at ej
            | succ j =>
              have hj2 : j < rs.length := by omega
              have hg : rs[j]? = some ((rs[j]).1, (rs[j]).2) := List.getElem?_eq_getElem hj2
              have hrow := rows j _ _ hg
              rw [List.getD_eq_getElem?_getD, List.getElem?_eq_getElem hj] at hrow
              have e3 : (pcs rs)[j + 1] = (pcs rs).getD (rs[j]).1 [] ++ [(rs[j]).2] := hrow
              rw [e3] at ej
              obtain ⟨e1, _⟩ := List.append_inj' ej rfl
              have hp' := (ok.init.low j _ _ hg).1
              refine hnew ?_
              rw [← e1]
              exact getD_mem (by omega)
          · have := congrArg List.length h
            simp at this
        · intro h
          exfalso
          rcases List.mem_append.mp h with h | h
          · obtain ⟨j, hj⟩ := List.mem_iff_getElem?.mp h
            have := (ok.init.low j _ _ hj).1
            have := (List.getElem?_eq_some_iff.mp hj).1
            omega
          · have h2 := List.mem_singleton.mp h
            have : rs.length + 1 = q := congrArg Prod.fst h2
            omega
end Ver
namespace Ver
/-! ### the cut -/
def cutStep (s : Rw × Nat) (c : Nat) : Rw × Nat := if (s.2, c) ∈ s.1 then (s.1, s.1.idxOf (s.2, c) + 1) else (s.1 ++ [(s.2, c)], 0)
def cutW (w : List Nat) : Rw × Nat := w.foldl cutStep ([], 0)
theorem cut_snoc (w : List Nat) (c : Nat) : cutW (w ++ [c]) = cutStep (cutW w) c := by
  unfold cutW
  rw [List.foldl_append]
  rfl
structure CutOk (al w : List Nat) (s : Rw × Nat) : Prop where
  ok : RowsOk al s.1
  low : s.2 ≤ s.1.length
  word : w = (pcs s.1).flatten ++ (pcs s.1).getD s.2 []
  few : s.1.length ≤ w.length
theorem idx_row {rs : Rw} {r : Nat × Nat} (h : r ∈ rs) : rs.idxOf r < rs.length ∧ rs[rs.idxOf r]? = some r := by
  have h1 := List.idxOf_lt_length_of_mem h
  refine ⟨h1, ?_⟩
  rw [List.getElem?_eq_getElem h1, List.getElem_idxOf h1]
theorem cut_ok {al : List Nat} (w : List Nat) (h : ∀ c ∈ w, c ∈ al) : CutOk al w (cutW w) := by
  induction w using snoc_ind with
  | h0 => exact ⟨⟨fun i p c h => by simp [cutW] at h, List.nodup_nil⟩, Nat.le_refl 0, by simp [cutW, pcs], Nat.le_refl 0⟩
  | hs w c ih0 =>
    have ih := ih0 fun d hd => h d (List.mem_append_left _ hd)
    have hc : c ∈ al := h c (List.mem_append_right _ (List.mem_singleton.mpr rfl))
    rw [cut_snoc]
    generalize cutW w = s at ih ⊢
    obtain ⟨rs, p⟩ := s
    obtain ⟨ok, low, word, few⟩ := ih
    have low : p ≤ rs.length := low
    obtain ⟨nd, rows, ex⟩ := pcs_facts rs ok
    have word : w = (pcs rs).flatten ++ (pcs rs).getD p [] := word
    have few : rs.length ≤ w.length := few
    unfold cutStep
    by_cases hm : (p, c) ∈ rs
    · rw [if_pos hm]
      obtain ⟨h1, h2⟩ := idx_row hm
      refine ⟨ok, h1, ?_, ?_⟩
      · show w ++ [c] = (pcs rs).flatten ++ (pcs rs).getD (rs.idxOf (p, c) + 1) []
        rw [rows _ p c h2, word, List.append_assoc]
      · show rs.length ≤ (w ++ [c]).length
        rw [List.length_append]
        omega
    · rw [if_neg hm]
      refine ⟨ok.snoc low hc hm, Nat.zero_le _, ?_, ?_⟩
      · show w ++ [c] = (pcs (rs ++ [(p, c)])).flatten ++ (pcs (rs ++ [(p, c)])).getD 0 []
        rw [pcs_zero, pcs_snoc, List.flatten_append, word]
        simp
      · show (rs ++ [(p, c)]).length ≤ (w ++ [c]).length
        rw [List.length_append, List.length_append]
        show rs.length + 1 ≤ w.length + 1
        omega
theorem cut_inj {al w v : List Nat} (hw : ∀ c ∈ w, c ∈ al) (hv : ∀ c ∈ v, c ∈ al) (h : cutW w = cutW v) : w = v := by
  rw [(cut_ok w hw).word, (cut_ok v hv).word, h]
/-! ### places -/
/-- an alphabet: its signs ascend -/
structure Alf (al : List Nat) : Prop where
  asc : al.Pairwise (· < ·)
  pos : 1 ≤ al.length
  six : al.length ≤ 6
  let' : ∀ c ∈ al, (48 ≤ c ∧ c ≤ 57) ∨ (97 ≤ c ∧ c ≤ 122)
theorem Alf.nd {al : List Nat} (h : Alf al) : al.Nodup := h.asc.imp fun h => Nat.ne_of_lt h
theorem idx_lt {al : List Nat} (h : al.Pairwise (· < ·)) {c d : Nat} (hc : c ∈ al) (hd : d ∈ al) : c < d ↔ al.idxOf c < al.idxOf d := by
  have h1 := List.idxOf_lt_length_of_mem hc
  have h2 := List.idxOf_lt_length_of_mem hd
  have e1 := List.getElem_idxOf h1
  have e2 := List.getElem_idxOf h2
  have key : ∀ i j (hi : i < al.length) (hj : j < al.length), i < j → al[i] < al[j] := fun i j hi hj hij => List.pairwise_iff_getElem.mp h i j hi hj hij
  constructor
  · intro hcd
    rcases Nat.lt_trichotomy (al.idxOf c) (al.idxOf d) with q | q | q
    · exact q
    · have : c = d := by rw [← e1, ← e2]; simp only [q]
      omega
    · have := key _ _ h2 h1 q
      rw [e1, e2] at this
      omega
  · intro q
    have := key _ _ h1 h2 q
    rw [e1, e2] at this
    exact this
def plc (al : List Nat) (r : Nat × Nat) : Nat := r.1 * al.length + al.idxOf r.2
theorem plc_lt {al : List Nat} {p c k : Nat} (hc : c ∈ al) (hp : p ≤ k) : plc al (p, c) < (k + 1) * al.length := by
  have h1 := List.idxOf_lt_length_of_mem hc
  have h2 : p * al.length ≤ k * al.length := Nat.mul_le_mul_right _ hp
  unfold plc
  rw [Nat.add_mul, Nat.one_mul]
  show p * al.length + al.idxOf c < _
  omega
def rlt (a b : Nat × Nat) : Prop := a.1 < b.1 ∨ a.1 = b.1 ∧ a.2 < b.2
theorem plc_mono {al : List Nat} (h : al.Pairwise (· < ·)) {a b : Nat × Nat} (ha : a.2 ∈ al) (hb : b.2 ∈ al) (hl : rlt a b) : plc al a < plc al b := by
  rcases hl with hl | ⟨h1, h2⟩
  · have h1 := plc_lt (p := a.1) ha (Nat.le_refl a.1)
    have h2 : (a.1 + 1) * al.length ≤ b.1 * al.length := Nat.mul_le_mul_right _ hl
    unfold plc at h1 ⊢
    show a.1 * al.length + al.idxOf a.2 < b.1 * al.length + al.idxOf b.2
    have h1 : a.1 * al.length + al.idxOf a.2 < (a.1 + 1) * al.length := h1
    omega
  · have := (idx_lt h ha hb).mp h2
    unfold plc
    rw [h1]
    omega
theorem rlt_tri {a b : Nat × Nat} (h : a ≠ b) : rlt a b ∨ rlt b a := by
  obtain ⟨a1, a2⟩ := a
  obtain ⟨b1, b2⟩ := b
  unfold rlt
  rcases Nat.lt_trichotomy a1 b1 with q | q | q
  · exact .inl (.inl q)
  · subst q
    rcases Nat.lt_trichotomy a2 b2 with q | q | q
    · exact .inl (.inr ⟨rfl, q⟩)
    · subst q
      exact absurd rfl h
    · exact .inr (.inr ⟨rfl, q⟩)
  · exact .inr (.inl q)
theorem plc_inj {al : List Nat} (h : al.Pairwise (· < ·)) {a b : Nat × Nat} (ha : a.2 ∈ al) (hb : b.2 ∈ al) (e : plc al a = plc al b) : a = b := by
  refine Classical.byContradiction fun hn => ?_
  rcases rlt_tri hn with q | q
  · have := plc_mono h ha hb q
    omega
  · have := plc_mono h hb ha q
    omega
def rowAt (rs : Rw) (k : Nat) : Nat × Nat := rs.getD k (0, 0)
theorem rowAt_get {rs : Rw} {k : Nat} (h : k < rs.length) : rs[k]? = some (rowAt rs k) := by
  unfold rowAt
  rw [List.getD_eq_getElem?_getD, List.getElem?_eq_getElem h]
  rfl
def pls (al : List Nat) (rs : Rw) : List Nat := rs.map (plc al)
def pnum (al : List Nat) (rs : Rw) (k : Nat) : Nat := plc al (rowAt rs k) - bel (pls al (rs.take k)) (plc al (rowAt rs k))
theorem row_ok {al : List Nat} {rs : Rw} (h : RowsOk al rs) {k : Nat} (hk : k < rs.length) : (rowAt rs k).1 ≤ k ∧ (rowAt rs k).2 ∈ al := h.low k _ _ (rowAt_get hk)
theorem RowsOk.take {al : List Nat} {rs : Rw} (h : RowsOk al rs) (k : Nat) : RowsOk al (rs.take k) := by
  refine ⟨fun i p c e => h.low i p c ?_, h.nd.sublist (List.take_sublist k rs)⟩
  rw [List.getElem?_take] at e
  split at e
  · exact e
  · cases e
theorem mem_row {al : List Nat} {rs : Rw} (h : RowsOk al rs) {r : Nat × Nat} (hr : r ∈ rs) : r.1 + 1 ≤ rs.length ∧ r.2 ∈ al := by
  obtain ⟨j, hj⟩ := List.mem_iff_getElem?.mp hr
  have h1 := h.low j r.1 r.2 hj
  have h2 := (List.getElem?_eq_some_iff.mp hj).1
  exact ⟨by omega, h1.2⟩
theorem pls_nd {al : List Nat} (ha : al.Pairwise (· < ·)) {rs : Rw} (h : RowsOk al rs) : (pls al rs).Nodup := by
  unfold pls
  refine List.pairwise_map.mpr ?_
  have h2 := h.nd
  refine List.Pairwise.imp_of_mem (fun {a b} ma mb hne e => hne ?_) h2
  exact plc_inj ha (mem_row h ma).2 (mem_row h mb).2 e
theorem pls_room {al : List Nat} {rs : Rw} (h : RowsOk al rs) : ∀ z ∈ pls al rs, z < rs.length * al.length := fun z hz => by
  obtain ⟨r, hr, rfl⟩ := List.mem_map.mp hz
  obtain ⟨h1, h2⟩ := mem_row h hr
  have := plc_lt (p := r.1) (k := r.1) h2 (Nat.le_refl _)
  exact Nat.lt_of_lt_of_le this (Nat.mul_le_mul_right _ h1)
theorem free_row {al : List Nat} (ha : al.Pairwise (· < ·)) {rs : Rw} (h : RowsOk al rs) {k : Nat} (hk : k < rs.length) : plc al (rowAt rs k) ∉ pls al (rs.take k) := fun hm => by
  obtain ⟨r, hr, e⟩ := List.mem_map.mp hm
  have h1 := (mem_row (h.take k) hr).2
  have e2 := plc_inj ha h1 (row_ok h hk).2 e
  obtain ⟨j, hj⟩ := List.mem_iff_getElem?.mp hr
  have hjk : j < k := by
    have := (List.getElem?_eq_some_iff.mp hj).1
    rw [List.length_take] at this
    omega
  rw [List.getElem?_take, if_pos hjk] at hj
  have hg := rowAt_get hk
  rw [e2] at hj
  obtain ⟨a1, b1⟩ := List.getElem?_eq_some_iff.mp hj
  obtain ⟨a2, b2⟩ := List.getElem?_eq_some_iff.mp hg
  have := (List.getElem_inj h.nd).mp (b1.trans b2.symm)
  omega
def opt (al : List Nat) (k : Nat) : Nat := (k + 1) * al.length - k + 1
theorem pnum_lt {al : List Nat} (ha : al.Pairwise (· < ·)) (hp : 1 ≤ al.length) {rs : Rw} (h : RowsOk al rs) {k : Nat} (hk : k < rs.length) : 1 + pnum al rs k < opt al k := by
  have hr := row_ok h hk
  have hl := plc_lt (p := (rowAt rs k).1) hr.2 hr.1
  have hn := pls_nd ha (h.take k)
  have hf := free_row ha h hk
  have hT : ∀ z ∈ pls al (rs.take k), z < (k + 1) * al.length := fun z hz => by
    have h1 := pls_room (h.take k) z hz
    rw [List.length_take, Nat.min_eq_left (by omega)] at h1
    exact Nat.lt_of_lt_of_le h1 (Nat.mul_le_mul_right _ (by omega))
  have key := bel_room hn (x := plc al (rowAt rs k)) hl hf hT
  have e : (pls al (rs.take k)).length = k := by
    unfold pls
    rw [List.length_map, List.length_take]
    omega
  rw [e] at key
  unfold pnum opt
  omega
/-! ### the numbers of the block -/
def num (al : List Nat) (rs : Rw) (k : Nat) : Nat := if k < rs.length then 1 + pnum al rs k else 0
theorem opt_two {al : List Nat} (hp : 1 ≤ al.length) (k : Nat) : 2 ≤ opt al k := by
  unfold opt
  have : (k + 1) * 1 ≤ (k + 1) * al.length := Nat.mul_le_mul_left _ hp
  omega
theorem num_lt {al : List Nat} (ha : al.Pairwise (· < ·)) (hp : 1 ≤ al.length) {rs : Rw} (h : RowsOk al rs) {k : Nat} : num al rs k < opt al k := by
  unfold num
  split
  · exact pnum_lt ha hp h (by assumption)
  · have := opt_two hp k
    omega
theorem num_same {al : List Nat} {rs rt : Rw} {s : Nat} (e : rs.take s = rt.take s) (h1 : s ≤ rs.length) (h2 : s ≤ rt.length) {k : Nat} (hk : k < s) : num al rs k = num al rt k := by
  unfold num pnum
  have er : rowAt rs k = rowAt rt k := by
    unfold rowAt
    rw [List.getD_eq_getElem?_getD, List.getD_eq_getElem?_getD]
    have a : (rs.take s)[k]? = rs[k]? := by rw [List.getElem?_take, if_pos hk]
    have b : (rt.take s)[k]? = rt[k]? := by rw [List.getElem?_take, if_pos hk]
    rw [← a, ← b, e]
  have et : rs.take k = rt.take k := by
    have a : (rs.take s).take k = rs.take k := by rw [List.take_take, Nat.min_eq_left (by omega)]
    have b : (rt.take s).take k = rt.take k := by rw [List.take_take, Nat.min_eq_left (by omega)]
    rw [← a, ← b, e]
  rw [if_pos (by omega), if_pos (by omega), er, et]
def wid (n : Nat) : Nat := (bitsOf (n : Int)).toNat
def nbl (n m : Nat) : List Nat := nbL n (wid m)
theorem nbl_ok {n m : Nat} (h : n < m) : Nb (nbl n m) (n : Int) (wid m) := by
  have := bits_lt (n := (n : Int)) (m := (m : Int)) (by omega) (by omega)
  rw [Int.toNat_natCast] at this
  exact nb_ok this
def prt (al : List Nat) (rs : Rw) (k : Nat) : List Nat := nbl (num al rs k) (opt al k)
def pre (al : List Nat) (rs : Rw) : Nat → List Nat
  | 0 => []
  | k + 1 => pre al rs k ++ prt al rs k
def rch (al : List Nat) : Nat → Nat
  | 0 => 0
  | k + 1 => rch al k + wid (opt al k)
def blk (al : List Nat) (s : Rw × Nat) : List Nat := pre al s.1 (s.1.length + 1) ++ nbl s.2 (s.1.length + 1)
theorem pre_len {al : List Nat} (ha : al.Pairwise (· < ·)) (hp : 1 ≤ al.length) {rs : Rw} (h : RowsOk al rs) : ∀ k, (pre al rs k).length = rch al k
  | 0 => rfl
  | k + 1 => by
    show (pre al rs k ++ nbl (num al rs k) (opt al k)).length = rch al k + wid (opt al k)
    rw [List.length_append, pre_len ha hp h k, (nbl_ok (num_lt ha hp h)).len]
theorem pre_same {al : List Nat} {rs rt : Rw} {s : Nat} (e : rs.take s = rt.take s) (h1 : s ≤ rs.length) (h2 : s ≤ rt.length) : ∀ k, k ≤ s → pre al rs k = pre al rt k
  | 0, _ => rfl
  | k + 1, hk => by
    show pre al rs k ++ prt al rs k = pre al rt k ++ prt al rt k
    rw [pre_same e h1 h2 k (by omega)]
    unfold prt
    rw [num_same e h1 h2 (by omega)]
theorem pre_split {al : List Nat} {rs : Rw} {s : Nat} : ∀ n, s < n → ∃ U, pre al rs n = pre al rs s ++ (prt al rs s ++ U)
  | 0, h => absurd h (Nat.not_lt_zero _)
  | n + 1, h => by
    by_cases c : s = n
    · subst c
      exact ⟨[], by show pre al rs s ++ prt al rs s = _; simp⟩
    · obtain ⟨U, e⟩ := pre_split (al := al) (rs := rs) (s := s) n (by omega)
      refine ⟨U ++ prt al rs n, ?_⟩
      show pre al rs n ++ prt al rs n = _
      rw [e]
      simp
theorem blk_len {al : List Nat} (ha : al.Pairwise (· < ·)) (hp : 1 ≤ al.length) {rs : Rw} (h : RowsOk al rs) {t : Nat} (ht : t ≤ rs.length) : (blk al (rs, t)).length = rch al (rs.length + 1) + wid (rs.length + 1) := by
  show (pre al rs (rs.length + 1) ++ nbl t (rs.length + 1)).length = _
  rw [List.length_append, pre_len ha hp h, (nbl_ok (show t < rs.length + 1 by omega)).len]
/-- A and B agree on R signs, and differ within the next W: there A is before B just where less -/
structure Parted (A B : List Nat) (R W : Nat) (less : Bool) : Prop where
  ex : ∃ P X Y U V, A = P ++ (X ++ U) ∧ B = P ++ (Y ++ V) ∧ P.length = R ∧ X.length = W ∧ Y.length = W ∧ if less = true then X < Y else Y < X
theorem nbl_lex {n k m : Nat} (hn : n < m) (hk : k < m) (h : n < k) : nbl n m < nbl k m := by
  have a := nbl_ok hn
  have b := nbl_ok hk
  exact lex_of_val _ _ (a.len.trans b.len.symm) a.digs b.digs (by rw [a.v, b.v]; omega)
theorem parted_of {al : List Nat} {P U V : List Nat} {n k m R : Nat} {less : Bool} (hn : n < m) (hk : k < m) (hP : P.length = R) (h : if less = true then n < k else k < n) : Parted (P ++ (nbl n m ++ U)) (P ++ (nbl k m ++ V)) R (wid m) less := by
  refine ⟨P, nbl n m, nbl k m, U, V, rfl, rfl, hP, (nbl_ok hn).len, (nbl_ok hk).len, ?_⟩
  cases less with
  | true => exact nbl_lex hn hk h
  | false => exact nbl_lex hk hn h
/-- the rows agree up to s, and there one ends or they differ -/
theorem parted_rows {al : List Nat} (A : Alf al) {rs rt : Rw} {t u s : Nat} (h1 : RowsOk al rs) (h2 : RowsOk al rt) (e : rs.take s = rt.take s) (l1 : s ≤ rs.length) (l2 : s ≤ rt.length) {less : Bool}
    (h : if less = true then num al rs s < num al rt s else num al rt s < num al rs s) : Parted (blk al (rs, t)) (blk al (rt, u)) (rch al s) (wid (opt al s)) less := by
  obtain ⟨U, e1⟩ := pre_split (al := al) (rs := rs) (s := s) (rs.length + 1) (by omega)
  obtain ⟨V, e2⟩ := pre_split (al := al) (rs := rt) (s := s) (rt.length + 1) (by omega)
  have p1 := pre_same (al := al) e l1 l2 s (Nat.le_refl _)
  show Parted (pre al rs (rs.length + 1) ++ nbl t (rs.length + 1)) (pre al rt (rt.length + 1) ++ nbl u (rt.length + 1)) _ _ _
  rw [e1, e2, List.append_assoc, List.append_assoc, List.append_assoc, List.append_assoc, ← p1]
  exact parted_of (al := al) (num_lt A.asc A.pos h1) (num_lt A.asc A.pos h2) (pre_len A.asc A.pos h1 s) h
theorem num_end {al : List Nat} {rs : Rw} : num al rs rs.length = 0 := if_neg (Nat.lt_irrefl _)
theorem num_pos {al : List Nat} {rs : Rw} {k : Nat} (h : k < rs.length) : num al rs k = 1 + pnum al rs k := if_pos h
theorem num_row {al : List Nat} (A : Alf al) {rs rt : Rw} {s : Nat} (h1 : RowsOk al rs) (h2 : RowsOk al rt) (e : rs.take s = rt.take s) (l1 : s < rs.length) (l2 : s < rt.length) (h : rlt (rowAt rs s) (rowAt rt s)) : num al rs s < num al rt s := by
  rw [num_pos l1, num_pos l2]
  unfold pnum
  have k1 := plc_mono A.asc (row_ok h1 l1).2 (row_ok h2 l2).2 h
  have k2 := bel_lt (pls_nd A.asc (h1.take s)) k1 (free_row A.asc h1 l1)
  rw [← e]
  omega
/-- both have the same rows: the tails tell -/
theorem parted_tails {al : List Nat} (A : Alf al) {rs : Rw} {t u : Nat} (h1 : RowsOk al rs) (ht : t ≤ rs.length) (hu : u ≤ rs.length) {less : Bool} (h : if less = true then t < u else u < t) :
    Parted (blk al (rs, t)) (blk al (rs, u)) (rch al (rs.length + 1)) (wid (rs.length + 1)) less := by
  have p := parted_of (al := al) (P := pre al rs (rs.length + 1)) (U := []) (V := []) (n := t) (k := u) (m := rs.length + 1) (R := rch al (rs.length + 1)) (less := less) (by omega) (by omega) (pre_len A.asc A.pos h1 _) h
  rw [List.append_nil, List.append_nil] at p
  exact p
theorem Parted.not_pre {A B : List Nat} {R W : Nat} {less : Bool} (h : Parted A B R W less) : ¬ A <+: B ∧ ¬ B <+: A := by
  obtain ⟨P, X, Y, U, V, rfl, rfl, hP, hX, hY, hl⟩ := h.ex
  have ne : X ≠ Y := fun e => by
    subst e
    cases less with
    | true => exact List.lt_irrefl _ hl
    | false => exact List.lt_irrefl _ hl
  have key : ∀ {X Y U V : List Nat}, X.length = Y.length → P ++ (X ++ U) <+: P ++ (Y ++ V) → X = Y := fun hxy hp => by
    obtain ⟨Z, hz⟩ := hp
    rw [List.append_assoc, List.append_assoc] at hz
    have h2 := List.append_cancel_left hz
    exact (List.append_inj h2 hxy).1
  exact ⟨fun hp => ne (key (hX.trans hY.symm) hp), fun hp => ne (key (hY.trans hX.symm) hp).symm⟩
theorem Parted.cut {A B : List Nat} {R W : Nat} {less : Bool} (h : Parted A B R W less) : R + W ≤ A.length ∧ R + W ≤ B.length ∧ A.take R = B.take R ∧
    (if less = true then (A.drop R).take W < (B.drop R).take W else (B.drop R).take W < (A.drop R).take W) := by
  obtain ⟨P, X, Y, U, V, rfl, rfl, hP, hX, hY, hl⟩ := h.ex
  subst hP
  have t1 : ∀ {Z : List Nat}, (P ++ Z).take P.length = P := fun {Z} => by simp
  have t2 : ∀ {Z : List Nat}, (P ++ Z).drop P.length = Z := fun {Z} => by simp
  have t3 : (X ++ U).take W = X := by rw [← hX]; simp
  have t4 : (Y ++ V).take W = Y := by rw [← hY]; simp
  refine ⟨?_, ?_, ?_, ?_⟩
  · simp only [List.length_append]
    omega
  · simp only [List.length_append]
    omega
  · rw [t1, t1]
  · rw [t2, t2, t3, t4]
    exact hl
theorem rch_mono {al : List Nat} : ∀ {i j : Nat}, i ≤ j → rch al i ≤ rch al j := by
  intro i j h
  induction h with
  | refl => exact Nat.le_refl _
  | @step k _ ih =>
    show rch al i ≤ rch al k + _
    omega
theorem wid_pow {n : Nat} (h : 1 ≤ n) : n ≤ 2 ^ wid n := by
  have := bits_lt (n := ((n - 1 : Nat) : Int)) (m := (n : Int)) (by omega) (by omega)
  rw [Int.toNat_natCast] at this
  unfold wid
  omega
theorem wid_mono {n m : Nat} (h1 : 1 ≤ n) (h : n ≤ m) : wid n ≤ wid m := by
  have hp := wid_pow (show 1 ≤ m by omega)
  have := bits_le (m := (n : Int)) (b := wid m) (by omega) (by
    have e : (2 : Int) ^ wid m = ((2 ^ wid m : Nat) : Int) := by
      rw [Int.natCast_pow]
      rfl
    rw [e]
    omega)
  unfold wid at this ⊢
  omega
theorem wid_two {n : Nat} (h : 2 ≤ n) : 1 ≤ wid n := by
  have hp := wid_pow (show 1 ≤ n by omega)
  cases e : wid n with
  | zero =>
    rw [e] at hp
    simp at hp
    omega
  | succ k => omega
def bln (al : List Nat) (m : Nat) : Nat := rch al (m + 1) + wid (m + 1)
theorem bln_lt {al : List Nat} (hp : 1 ≤ al.length) {m k : Nat} (h : m < k) : bln al m < bln al k := by
  have h1 := rch_mono (al := al) (show m + 2 ≤ k + 1 by omega)
  have h2 := wid_two (opt_two hp (m + 1))
  have h3 := wid_mono (n := m + 1) (m := k + 1) (by omega) (by omega)
  have h4 : rch al (m + 2) = rch al (m + 1) + wid (opt al (m + 1)) := rfl
  unfold bln
  omega
theorem bln_iff {al : List Nat} (hp : 1 ≤ al.length) {m k : Nat} : (bln al m < bln al k ↔ m < k) ∧ (bln al m = bln al k ↔ m = k) := by
  rcases Nat.lt_trichotomy m k with h | h | h
  · have := bln_lt hp h
    omega
  · subst h
    omega
  · have := bln_lt hp h
    omega
/-- what the law computes of two cuts whose rows agree up to s -/
def lR (al : List Nat) (a b : Rw × Nat) (s : Nat) : Nat := if s = a.1.length ∧ s = b.1.length then rch al (s + 1) else rch al s
def lW (al : List Nat) (a b : Rw × Nat) (s : Nat) : Nat := if s = a.1.length ∧ s = b.1.length then wid (s + 1) else wid (opt al s)
def rltb (a b : Nat × Nat) : Bool := decide (a.1 < b.1 ∨ a.1 = b.1 ∧ a.2 < b.2)
def lL (a b : Rw × Nat) (s : Nat) : Bool := if s = a.1.length ∧ s = b.1.length then decide (a.2 < b.2) else if s = a.1.length ∨ s = b.1.length then decide (a.1.length < b.1.length) else rltb (rowAt a.1 s) (rowAt b.1 s)
structure Agree (a b : Rw) (s : Nat) : Prop where
  same : a.take s = b.take s
  l1 : s ≤ a.length
  l2 : s ≤ b.length
  last : s = a.length ∨ s = b.length ∨ rowAt a s ≠ rowAt b s
theorem law_pair {al w v : List Nat} (A : Alf al) (hw : ∀ c ∈ w, c ∈ al) (hv : ∀ c ∈ v, c ∈ al) (ne : w ≠ v) {s : Nat} (g : Agree (cutW w).1 (cutW v).1 s) :
    Parted (blk al (cutW w)) (blk al (cutW v)) (lR al (cutW w) (cutW v) s) (lW al (cutW w) (cutW v) s) (lL (cutW w) (cutW v) s) := by
  have k1 := cut_ok w hw
  have k2 := cut_ok v hv
  have hne : cutW w ≠ cutW v := fun e => ne (cut_inj hw hv e)
  generalize cutW w = a at *
  generalize cutW v = b at *
  obtain ⟨rs, t⟩ := a
  obtain ⟨rt, u⟩ := b
  have o1 : RowsOk al rs := k1.ok
  have o2 : RowsOk al rt := k2.ok
  have t1 : t ≤ rs.length := k1.low
  have t2 : u ≤ rt.length := k2.low
  obtain ⟨same, l1, l2, last⟩ := g
  have l1 : s ≤ rs.length := l1
  have l2 : s ≤ rt.length := l2
  have same : rs.take s = rt.take s := same
  have last : s = rs.length ∨ s = rt.length ∨ rowAt rs s ≠ rowAt rt s := last
  unfold lR lW lL
  show Parted _ _ (if s = rs.length ∧ s = rt.length then rch al (s + 1) else rch al s) (if s = rs.length ∧ s = rt.length then wid (s + 1) else wid (opt al s)) (if s = rs.length ∧ s = rt.length then decide (t < u) else if s = rs.length ∨ s = rt.length then decide (rs.length < rt.length) else rltb (rowAt rs s) (rowAt rt s))
  by_cases c : s = rs.length ∧ s = rt.length
  · rw [if_pos c, if_pos c, if_pos c]
    have er : rs = rt := by
      rw [List.take_of_length_le (by omega), List.take_of_length_le (by omega)] at same
      exact same
    subst er
    have htu : t ≠ u := fun e => hne (by rw [e])
    rw [c.1]
    refine parted_tails A o1 t1 t2 ?_
    by_cases q : t < u
    · rw [if_pos (decide_eq_true q)]
      exact q
    · rw [if_neg (by simpa using q)]
      omega
  · rw [if_neg c, if_neg c, if_neg c]
    refine parted_rows A o1 o2 same l1 l2 ?_
    by_cases d : s = rs.length ∨ s = rt.length
    · rw [if_pos d]
      rcases d with d | d
      · have hlt : rs.length < rt.length := by omega
        rw [if_pos (decide_eq_true hlt)]
        have h0 : num al rs s = 0 := by
          rw [d]
          exact num_end
        rw [h0, num_pos (by omega)]
        omega
      · have hlt : ¬ rs.length < rt.length := by omega
        rw [if_neg (by simpa using hlt)]
        have h0 : num al rt s = 0 := by
          rw [d]
          exact num_end
        rw [h0, num_pos (by omega)]
        omega
    · rw [if_neg d]
      have d1 : s < rs.length := by omega
      have d2 : s < rt.length := by omega
      have hn : rowAt rs s ≠ rowAt rt s := by
        rcases last with z | z | z
        · exact absurd (.inl z) d
        · exact absurd (.inr z) d
        · exact z
      by_cases q : rlt (rowAt rs s) (rowAt rt s)
      · rw [if_pos (show rltb (rowAt rs s) (rowAt rt s) = true from decide_eq_true q)]
        exact num_row A o1 o2 same d1 d2 q
      · rw [if_neg (show ¬ rltb (rowAt rs s) (rowAt rt s) = true from fun h => q (by unfold rltb at h; unfold rlt; exact of_decide_eq_true h))]
        have q2 := (rlt_tri hn).resolve_left q
        exact num_row A o2 o1 same.symm d2 d1 q2
theorem blk_cut_len {al w : List Nat} (A : Alf al) (hw : ∀ c ∈ w, c ∈ al) : (blk al (cutW w)).length = bln al (cutW w).1.length := by
  have k := cut_ok w hw
  exact blk_len A.asc A.pos k.ok k.low
/-- one there is: the rows agree up to some place -/
theorem agree_ex : ∀ (a b : Rw), ∃ s, Agree a b s := by
  intro a b
  have h : ∀ n, n ≤ a.length → n ≤ b.length → a.take n = b.take n → ∃ s, Agree a b s := by
    intro n
    generalize hd : a.length - n = d
    induction d generalizing n with
    | zero => exact fun h1 h2 e => ⟨n, e, h1, h2, .inl (by omega)⟩
    | succ d ih =>
      intro h1 h2 e
      by_cases c : n = b.length
      · exact ⟨n, e, h1, h2, .inr (.inl c)⟩
      · by_cases q : rowAt a n = rowAt b n
        · refine ih (n + 1) (by omega) (by omega) (by omega) ?_
          rw [List.take_add_one, List.take_add_one, e, rowAt_get (by omega), rowAt_get (by omega), q]
        · exact ⟨n, e, h1, h2, .inr (.inr q)⟩
  exact h 0 (Nat.zero_le _) (Nat.zero_le _) rfl
theorem blk_not_pre {al w v : List Nat} (A : Alf al) (hw : ∀ c ∈ w, c ∈ al) (hv : ∀ c ∈ v, c ∈ al) (ne : w ≠ v) : ¬ blk al (cutW w) <+: blk al (cutW v) := by
  obtain ⟨s, g⟩ := agree_ex (cutW w).1 (cutW v).1
  exact (law_pair A hw hv ne g).not_pre.1
end Ver
namespace Ver
open PySem PySem.Spec PyProof.Rows L2 Evl
structure At (K : PySem.W.Frag) (mg : Str → Option Value) (x : Str) (st : Stmt) : Prop where
  ex : ∃ f fd, Fun K x x st f fd ∧ mg x = some (.ref f)
def Has (P : Program) (w : World) (K : PySem.W.Frag) (mg : Str → Option Value) (base : Heap) (x : Str) (st : Stmt) (ps : List Str) (k : Nat) (sp : Sp) : Prop :=
  ∃ f fd, Fun K x x st f fd ∧ FnOk P w K mg base CX0 k f fd ps sp ∧ Binds K fd ps [] ∧ mg x = some (.ref f) ∧ PySem.W.keepIn K (.ref f) = true
/-- an __init__, and the class that it makes -/
structure AtI (K : PySem.W.Frag) (C : Addr) (q : Str) (st : Stmt) : Prop where
  ex : ∃ f fd, Fun K "__init__" q st f fd ∧ Mk K C f
def HasI (P : Program) (w : World) (K : PySem.W.Frag) (mg : Str → Option Value) (base : Heap) (C : Addr) (ps : List Str) (k : Nat) (sp : Sp) : Prop :=
  ∃ f fd, FnOk P w K mg base CX0 k f fd ps sp ∧ Binds K fd ps [] ∧ Mk K C f
/-! ### data of the heap -/
structure RowsAt (H : Hp) (xs : List V) (rs : Rw) : Prop where
  len : xs.length = rs.length
  row : ∀ (i p c : Nat), rs[i]? = some (p, c) → ∃ r, xs[i]? = some (V.ref r) ∧ H r = some (.tup [.int (p : Int), tx [c]])
theorem RowsAt.mono {H H' : Hp} {xs : List V} {rs : Rw} (h : RowsAt H xs rs) (e : Ex H H') : RowsAt H' xs rs := ⟨h.len, fun i p c q => by
  obtain ⟨r, a, b⟩ := h.row i p c q
  exact ⟨r, a, e _ _ b⟩⟩
/-- what is no tuple may change -/
theorem RowsAt.upd {H : Hp} {xs : List V} {rs : Rw} {l : Addr} {o u : HO} (h : RowsAt H xs rs) (hl : H l = some u) (hu : ∀ ys, u ≠ .tup ys) : RowsAt (upd H l o) xs rs := ⟨h.len, fun i p c q => by
  obtain ⟨r, a, b⟩ := h.row i p c q
  refine ⟨r, a, ?_⟩
  rw [upd_ne]
  · exact b
  · intro z
    rw [z, hl] at b
    exact hu _ (Option.some.inj b)⟩
theorem RowsAt.nil {H : Hp} : RowsAt H [] [] := ⟨rfl, fun i p c q => by simp at q⟩
theorem RowsAt.snoc {H : Hp} {xs : List V} {rs : Rw} {r : Addr} {p c : Nat} (h : RowsAt H xs rs) (hr : H r = some (.tup [.int (p : Int), tx [c]])) : RowsAt H (xs ++ [.ref r]) (rs ++ [(p, c)]) := by
  refine ⟨by rw [List.length_append, List.length_append, h.len]; rfl, fun i q d e => ?_⟩
  by_cases hi : i < rs.length
  · rw [List.getElem?_append_left hi] at e
    obtain ⟨r', a, b⟩ := h.row i q d e
    exact ⟨r', by rw [List.getElem?_append_left (by rw [h.len]; exact hi)]; exact a, b⟩
  · have h1 := (List.getElem?_eq_some_iff.mp e).1
    rw [List.length_append] at h1
    have e2 : i = rs.length := by
      simp at h1
      omega
    subst e2
    have e3 : (p, c) = (q, d) := by simpa using e
    cases e3
    refine ⟨r, ?_, hr⟩
    rw [← h.len]
    simp
theorem RowsAt.get {H : Hp} {xs : List V} {rs : Rw} (h : RowsAt H xs rs) {i : Nat} {x : V} (hx : xs[i]? = some x) : i < rs.length ∧ ∃ r, x = .ref r ∧ H r = some (.tup [.int ((rowAt rs i).1 : Int), tx [(rowAt rs i).2]]) := by
  have hi : i < rs.length := by
    rw [← h.len]
    exact (List.getElem?_eq_some_iff.mp hx).1
  refine ⟨hi, ?_⟩
  obtain ⟨r, a, b⟩ := h.row i _ _ (rowAt_get hi)
  rw [a] at hx
  exact ⟨r, (Option.some.inj hx).symm, b⟩
/-! ### promises' shapes -/
def RetU (xs : List V) (H : Hp) (Q : VK) : Prop := ∀ p H2, H p = none → Ex H H2 → H2 p = some (.tup xs) → Q (.ref p) H2
section
variable {K : PySem.W.Frag} {σ : L2.St} {H : Hp} {ta tb te : TE} {t : TT} {tu tz : TS} {D : Ends}
/-! ### texts -/
theorem rc_lenS {l : List Nat} (h : l.length ≤ 100000) : RC (fun vs H Q => ∃ z : Str, vs = [.str z] ∧ z.length ≤ sizeLine ∧ Q (.int (z.length : Int)) H) [tx l] H (.int (l.length : Int)) := fun H1 _ Q q =>
  ⟨SX.S l, rfl, by rw [SX.S_len]; exact sz_of h, by rw [SX.S_len]; exact q H1 (Ex.refl H1)⟩
theorem ev_lenS {l : List Nat} (h : l.length ≤ 100000) (ha : Ev ta σ H (tx l)) : Ev (tCB (fun vs H Q => ∃ z : Str, vs = [.str z] ∧ z.length ≤ sizeLine ∧ Q (.int (z.length : Int)) H) (tCons ta tNil)) σ H (.int (l.length : Int)) := ev_cb (ea_cons ha ea_nil) (rc_lenS h)
theorem rv_ltS {a b : List Nat} : RV (fun x y H Q => ∃ i j : Str, x = .str i ∧ y = .str j ∧ Q (.bl (decide (i.cps.toList < j.cps.toList))) H) (tx a) (tx b) H (.bl (decide (a < b))) := fun H1 _ _ q => ⟨_, _, rfl, rfl, q H1 (Ex.refl H1)⟩
theorem ev_catS {a b : List Nat} (h : a.length + b.length ≤ 100000) (ha : Ev ta σ H (tx a)) (hb : Ev tb σ H (tx b)) : Ev (tOp (fun x y H Q => ∃ i j : Str, x = .str i ∧ y = .str j ∧ i.length + j.length ≤ sizeLine ∧ Q (.str (i ++ j)) H) ta tb) σ H (tx (a ++ b)) :=
  ev_op ha hb fun H1 _ Q q => ⟨_, _, rfl, rfl, by rw [SX.S_len, SX.S_len]; exact sz_of h, by rw [SX.S_cat]; exact q H1 (Ex.refl H1)⟩
theorem et_neS {a b : List Nat} (ha : Ev ta σ H (tx a)) (hb : Ev tb σ H (tx b)) : EvT (tTest (tOp rNe ta tb)) σ H (!decide (a = b)) := et_test (ev_is (ev_op ha hb (rv_ne rfl)) (by rw [tx_dec]))
theorem et_eqS {a b : List Nat} (ha : Ev ta σ H (tx a)) (hb : Ev tb σ H (tx b)) : EvT (tTest (tOp rEq ta tb)) σ H (decide (a = b)) := et_test (ev_is (ev_op ha hb (rv_eq rfl)) (by rw [tx_dec]))
theorem rv_inSign {c : Nat} {l : List Nat} : RV (fun x y H Q => ∃ (c : Nat) (z : Str), x = .str ⟨#[c]⟩ ∧ y = .str z ∧ Q (.bl (decide (c ∈ z.cps.toList))) H) (tx [c]) (tx l) H (.bl (decide (c ∈ l))) := fun H1 _ _ q => ⟨c, SX.S l, rfl, rfl, q H1 (Ex.refl H1)⟩
theorem cutS_all {l : List Nat} {lo hi : Option Int} : cutS (SX.S l) lo hi = SX.S ((l.drop (HT.sIx l.length 0 lo)).take (HT.sIx l.length l.length hi - HT.sIx l.length 0 lo)) := by
  unfold cutS
  rw [SX.S_len]
def cutL (l : List Nat) (lo hi : Option Int) : List Nat := (l.drop (HT.sIx l.length 0 lo)).take (HT.sIx l.length l.length hi - HT.sIx l.length 0 lo)
theorem cutL_from {l : List Nat} (n : Nat) : cutL l (some (n : Int)) none = l.drop n := by
  unfold cutL
  rw [HT.sIx_none, HT.sIx_nat]
  by_cases h : n ≤ l.length
  · rw [Nat.min_eq_left h]
    exact List.take_of_length_le (by rw [List.length_drop]; omega)
  · rw [Nat.min_eq_right (by omega), Nat.sub_self, List.take_zero, List.drop_eq_nil_of_le (by omega)]
theorem cutL_to {l : List Nat} (n : Nat) : cutL l none (some (n : Int)) = l.take n := by
  unfold cutL
  rw [HT.sIx_none, HT.sIx_nat]
  simp only [Nat.sub_zero, List.drop_zero]
  by_cases h : n ≤ l.length
  · rw [Nat.min_eq_left h]
  · rw [Nat.min_eq_right (by omega), List.take_length, List.take_of_length_le (by omega)]
theorem cutL_both {l : List Nat} (a b : Nat) : cutL l (some (a : Int)) (some ((a + b : Nat) : Int)) = (l.drop a).take b := by
  unfold cutL
  rw [HT.sIx_nat, HT.sIx_nat]
  by_cases h : a ≤ l.length
  · rw [Nat.min_eq_left h]
    by_cases h2 : a + b ≤ l.length
    · rw [Nat.min_eq_left h2]
      congr 1
      omega
    · rw [Nat.min_eq_right (by omega), List.take_of_length_le (by rw [List.length_drop]; omega), List.take_of_length_le (by rw [List.length_drop]; omega)]
  · rw [Nat.min_eq_right (by omega), Nat.min_eq_right (by omega), Nat.sub_self, List.take_zero, List.drop_eq_nil_of_le (by omega)]
    simp
theorem cutL_sub {l : List Nat} {lo hi : Option Int} : ∀ c ∈ cutL l lo hi, c ∈ l := fun c h => List.mem_of_mem_drop (List.mem_of_mem_take h)
theorem cutL_len {l : List Nat} {lo hi : Option Int} : (cutL l lo hi).length ≤ l.length := by
  unfold cutL
  rw [List.length_take, List.length_drop]
  omega
theorem ev_slS {l : List Nat} {tl th : TO} {lo hi : Option Int} (hz : l.length ≤ 100000) (h : Ev te σ H (tx l)) (h1 : EvO tl σ H lo) (h2 : EvO th σ H hi) : Ev (tSl rSlS te tl th) σ H (tx (cutL l lo hi)) := fun H1 e Q q =>
  h H1 e _ fun H2 e2 => h1 H2 (e.trans e2) _ fun H3 e3 => h2 H3 ((e.trans e2).trans e3) _ fun H4 e4 =>
    ⟨SX.S l, rfl, by rw [SX.S_len]; exact sz_of hz, by rw [cutS_all]; exact q H4 ((e2.trans e3).trans e4)⟩
theorem ev_ixS {l : List Nat} {i c : Nat} (hz : l.length ≤ 100000) (hi : l[i]? = some c) (ha : Ev ta σ H (tx l)) (hb : Ev tb σ H (.int (i : Int))) : Ev (tOp rIxS ta tb) σ H (tx [c]) :=
  ev_op ha hb (rv_ixS (w := SX.S l) (by rw [SX.S_len]; exact hz) (atI_nat hi))
theorem ev_mulS {l : List Nat} {n : Nat} (h1 : n ≤ 100000) (h2 : l.length * n ≤ 100000) (ha : Ev ta σ H (tx l)) (hb : Ev tb σ H (.int (n : Int))) : Ev (tOp rMulS ta tb) σ H (tx (List.replicate n l).flatten) :=
  ev_op ha hb fun H1 _ Q q => ⟨l, n, rfl, rfl, h1, h2, q H1 (Ex.refl H1)⟩
/-! ### lists made on the way -/
theorem ev_allN {bs : List Bool} (ha : EvL ta σ H (bs.map V.bl)) : Ev (tCB (rAll K) (tCons ta tNil)) σ H (.bl (bs.all id)) := fun H1 e Q q =>
  ha H1 e _ fun p H2 _ e2 h2 => ⟨p, bs, rfl, sq_of h2, q H2 e2⟩
theorem eu_tupOfL {xs : List V} (ha : EvL ta σ H xs) : EvU (tCB (fun xs H Q => ∃ p ys, xs = [.ref p] ∧ ((SqL K H p ys ∧ ∀ l, H l = none → Q (.ref l) (upd H l (.tup ys))) ∨ (SqT K H p ys ∧ Q (.ref p) H))) (tCons ta tNil)) σ H xs := fun H1 e Q q =>
  ha H1 e _ fun p H2 _ e2 h2 => ⟨p, xs, rfl, .inl ⟨sq_of h2, fun l hl => q l _ (fresh_back e2 hl) (e2.trans (Ex.new hl)) upd_same⟩⟩
theorem eu_tupOf {p : Addr} {xs : List V} (ha : Ev ta σ H (.ref p)) (hp : SqL K H p xs) : EvU (tCB (fun xs H Q => ∃ p ys, xs = [.ref p] ∧ ((SqL K H p ys ∧ ∀ l, H l = none → Q (.ref l) (upd H l (.tup ys))) ∨ (SqT K H p ys ∧ Q (.ref p) H))) (tCons ta tNil)) σ H xs := fun H1 e Q q =>
  ha H1 e _ fun H2 e2 => ⟨p, xs, rfl, .inl ⟨ex_l (e.trans e2) hp, fun l hl => q l _ (fresh_back e2 hl) (e2.trans (Ex.new hl)) upd_same⟩⟩
theorem rc_lenT {p : Addr} {xs : List V} (h : SqT K H p xs) : RC (fun vs H Q => ∃ p ys, vs = [V.ref p] ∧ (SqL K H p ys ∨ SqT K H p ys) ∧ Q (V.int ys.length) H) [.ref p] H (.int xs.length) := fun H1 e _ q =>
  ⟨p, xs, rfl, .inr (ex_t e h), q H1 (Ex.refl H1)⟩
/-- a list made over zip(text, text) -/
theorem el_lcZ {x y : List Nat} {tp : TA} {j1 j2 : Nat} {vs : List Nat} (v : Nat → V) (h : EvA tp σ H [tx x, tx y]) (hz : x.length ≤ 40000)
    (hw : ∀ a b, wipe (((wipe σ vs).set j1 (some a)).set j2 (some b)) vs = wipe σ vs)
    (he : ∀ (i c d : Nat) H1, Ex H H1 → x[i]? = some c → y[i]? = some d → Ev te (((wipe σ vs).set j1 (some (tx [c]))).set j2 (some (tx [d]))) H1 (v i)) :
    EvL (tLc (iZipS tp) (gTup K 2 (gCons (gName j1) (gCons (gName j2) gNil))) tYes te vs) σ H ((List.range (min x.length y.length)).map v) := fun H0 e Q q => h H0 e _ fun H1 e1 => ⟨SX.S x, SX.S y, rfl, fun Dl hD => by
  have hn : min (SX.S x).cps.size (SX.S y).cps.size = min x.length y.length := by
    show min x.toArray.size y.toArray.size = _
    simp
  refine lc_it walk_zs (Cw H1 (fun _ => true) v Dl) ⟨hD, Ex.new hD, upd_same⟩ (fun _ _ _ _ => trivial) (fun i z H' H2 hi p yp => ?_) (fun H' p => ?_)
  · obtain ⟨T, a, b, rfl, hT, rfl, ha, hb⟩ := yp
    have ha2 : (x[i]?).map (fun c => tx [c]) = some a := ha
    have hb2 : (y[i]?).map (fun c => tx [c]) = some b := hb
    cases hx : x[i]? with
    | none =>
      rw [hx] at ha2
      cases ha2
    | some c =>
    cases hy : y[i]? with
    | none =>
      rw [hy] at hb2
      cases hb2
    | some d =>
    rw [hx] at ha2
    rw [hy] at hb2
    cases ha2
    cases hb2
    have hxl := (List.getElem?_eq_some_iff.mp hx).1
    have p2 : Cw H1 (fun _ => true) v Dl i (L2.upd H' T (.tup [tx [c], tx [d]])) := ⟨p.1, p.2.1.trans (Ex.new hT), Ex.new hT _ _ p.2.2⟩
    exact ⟨T, _, rfl, st_of upd_same, rfl, _, _, rfl, _, _, rfl, rfl, hw _ _, cw_turn p2 (by omega) et_yes fun _ => he i c d H1 (e.trans e1) hx hy⟩
  · rw [hn] at p
    have e9 := given_all (min x.length y.length) v
    have p3 := p.2.2
    rw [e9] at p3
    exact q Dl H' (fresh_back e1 p.1) (e1.trans p.2.1) p3⟩
end
end Ver
namespace Ver
open PySem PySem.Spec PyProof.Rows L2 Evl
section
variable {K : PySem.W.Frag} {σ : L2.St} {H : Hp} {ta tb tc te tl ty td : TE} {t : TT} {tu tz : TS} {D : Ends}
abbrev gPair (K : PySem.W.Frag) (j1 j2 : Nat) : TG := gTup K 2 (gCons (gName j1) (gCons (gName j2) gNil))
theorem q_drop {v : V} (h : Ev te σ H v) (k : ∀ H1, Ex H H1 → tz D σ H1) : tSeq (tDrop te) tz D σ H := s_drop (D := { D with nx := tz D }) h k
/-- a, b = a pair that stands -/
theorem q_unp {r : Addr} {a b : V} {j1 j2 : Nat} (h : Ev te σ H (.ref r)) (hr : H r = some (.tup [a, b])) (k : ∀ H1, Ex H H1 → tz D ((σ.set j1 (some a)).set j2 (some b)) H1) : tSeq (tAsg te (gPair K j1 j2)) tz D σ H :=
  h H (Ex.refl H) _ fun H1 e => ⟨r, [a, b], rfl, st_of (e _ _ hr), rfl, a, [b], rfl, b, [], rfl, rfl, k H1 e⟩
/-- for i, x in enumerate(a tuple) -/
theorem s_forET {tp : TA} {a : Addr} {xs : List V} {j1 j2 : Nat} (h : EvA tp σ H [.ref a]) (hx : SqT K H a xs)
    (Pv : Nat → L2.St → Hp → Prop) (h0 : ∀ H1, Ex H H1 → Pv 0 σ H1) (hG : ∀ i σ' H', Pv i σ' H' → SqT K H' a xs)
    (hs : ∀ i x σ' H' H2, xs[i]? = some x → Pv i σ' H' → Ex H' H2 → tu { D with nx := Pv (i + 1), ct := Pv (i + 1), bk := D.nx } ((σ'.set j1 (some (.int (i : Int)))).set j2 (some x)) H2)
    (hd : ∀ σ' H', Pv xs.length σ' H' → D.nx σ' H') : tFor (iEnumT K tp) (gPair K j1 j2) tu D σ H := by
  refine h H (Ex.refl H) _ fun H1 e1 => ⟨a, xs, rfl, ex_t e1 hx, for_it (walk_eT (k := 0) (xs := xs)) Pv (h0 H1 e1) (fun i σ' H' _ p => hG i σ' H' p) ?_ hd⟩
  intro i v σ' H3 H4 _ p y
  obtain ⟨T, x, z, rfl, hT, rfl, e3, e4⟩ := y
  cases e3
  have g := hs i z σ' H3 (L2.upd H3 T (.tup [.int (0 + (i : Int)), z])) e4 p (Ex.new hT)
  have e0 : (0 : Int) + (i : Int) = (i : Int) := Int.zero_add _
  refine ⟨T, [.int (0 + (i : Int)), z], rfl, st_of upd_same, rfl, _, _, rfl, _, _, rfl, rfl, ?_⟩
  generalize L2.upd H3 T (.tup [.int (0 + (i : Int)), z]) = HX at g ⊢
  show tu _ ((σ'.set j1 (some (.int (0 + (i : Int))))).set j2 (some z)) HX
  rw [e0]
  exact g
/-- for p, c in rows (a tuple of pairs) -/
theorem q_forRows {a : Addr} {xs : List V} {rs : Rw} {j1 j2 : Nat} (h : Ev tl σ H (.ref a)) (hx : SqT K H a xs) (R : RowsAt H xs rs)
    (Pv : Nat → L2.St → Hp → Prop) (h0 : ∀ H1, Ex H H1 → Pv 0 σ H1) (hG : ∀ i σ' H', Pv i σ' H' → SqT K H' a xs ∧ RowsAt H' xs rs)
    (hs : ∀ i σ' H', i < rs.length → Pv i σ' H' → tu { D with nx := Pv (i + 1), ct := Pv (i + 1), bk := tz D } ((σ'.set j1 (some (.int ((rowAt rs i).1 : Int)))).set j2 (some (tx [(rowAt rs i).2]))) H')
    (hd : ∀ σ' H', Pv rs.length σ' H' → tz D σ' H') : tSeq (tFor (iTup K tl) (gPair K j1 j2) tu) tz D σ H := by
  refine q_forT h hx Pv h0 (fun i σ' H' _ p => (hG i σ' H' p).1) ?_ (by rw [R.len]; exact hd)
  intro i x σ' H' hi p
  obtain ⟨hlt, r, rfl, hr⟩ := (hG i σ' H' p).2.get hi
  exact ⟨r, _, rfl, st_of hr, rfl, _, _, rfl, _, _, rfl, rfl, hs i σ' H' hlt p⟩
/-! ### dicts -/
theorem et_din {a : Addr} {y : V} {o : Option V} (hy : Ev ty σ H y) (hd : Ev td σ H (.ref a)) (hg : ∀ H1, Ex H H1 → DGet H1 a y o) : EvT (tB (tDIn ty td)) σ H o.isSome := fun H1 e Q q =>
  hy H1 e _ fun H2 e2 => hd H2 (e.trans e2) _ fun H3 e3 => ⟨a, o, rfl, hg H3 ((e.trans e2).trans e3), o.isSome, rfl, q H3 (e2.trans e3)⟩
theorem ev_dget {a : Addr} {y v : V} (hd : Ev td σ H (.ref a)) (hy : Ev ty σ H y) (hg : ∀ H1, Ex H H1 → DGet H1 a y (some v)) : Ev (tDGet td ty) σ H v := fun H1 e Q q =>
  hd H1 e _ fun H2 e2 => hy H2 (e.trans e2) _ fun H3 e3 => ⟨a, v, rfl, hg H3 ((e.trans e2).trans e3), q H3 (e2.trans e3)⟩
theorem s_dput {a : Addr} {y v : V} {g : Hp → Hp} (hv : Ev te σ H v) (hd : Ev td σ H (.ref a)) (hy : Ev ty σ H y) (hp : ∀ H1, Ex H H1 → DPut H1 a y v (g H1)) (k : ∀ H1, Ex H H1 → D.nx σ (g H1)) : sDPut td ty te D σ H :=
  hv H (Ex.refl H) _ fun H1 e1 => hd H1 e1 _ fun H2 e2 => hy H2 (e1.trans e2) _ fun H3 e3 => ⟨a, g H3, rfl, hp H3 ((e1.trans e2).trans e3), k H3 ((e1.trans e2).trans e3)⟩
theorem q_dput {a : Addr} {y v : V} {g : Hp → Hp} (hv : Ev te σ H v) (hd : Ev td σ H (.ref a)) (hy : Ev ty σ H y) (hp : ∀ H1, Ex H H1 → DPut H1 a y v (g H1)) (k : ∀ H1, Ex H H1 → tz D σ (g H1)) : tSeq (sDPut td ty te) tz D σ H :=
  s_dput (D := { D with nx := tz D }) hv hd hy hp k
theorem q_newT {i : Nat} (k : ∀ p H1, H p = none → Ex H H1 → H1 p = some (.dT []) → tz D (σ.set i (some (.ref p))) H1) : tSeq (tAsg tDNewT (gName i)) tz D σ H := fun p hp => k p _ hp (Ex.new hp) upd_same
/-! ### list.insert, text.index, join -/
theorem q_ins {l : Addr} {xs : List V} {i : Nat} {v : V} (hl : H l = some (.lst xs)) (ha : Ev ta σ H (.ref l)) (hb : Ev tb σ H (.int (i : Int))) (hc : Ev tc σ H v) (hz : xs.length < 100000) (hi : i ≤ 100000)
    (k : ∀ H1, Ex H H1 → tz D σ (upd H1 l (.lst (xs.take i ++ [v] ++ xs.drop i)))) :
    tSeq (tDrop (tBM K "list" (fun x vs H Q => ∃ (l : Addr) (xs : List V) (i : Int) (y : V), x = .ref l ∧ vs = [.int i, y] ∧ H l = some (.lst xs) ∧ xs.length < sizeLine ∧ 0 ≤ i ∧ i < 2 ^ 63 ∧
      Q .non (upd H l (.lst (xs.take i.toNat ++ [y] ++ xs.drop i.toNat)))) ta (tCons tb (tCons tc tNil)))) tz D σ H :=
  ha H (Ex.refl H) _ fun H1 e1 => ⟨Or.inl ⟨rfl, xs, sq_of (e1 l _ hl)⟩, hb H1 e1 _ fun H2 e2 => hc H2 (e1.trans e2) _ fun H3 e3 =>
    ⟨l, xs, (i : Int), v, rfl, rfl, ((e1.trans e2).trans e3) l _ hl, sz_lt hz, by omega, by omega, by rw [Int.toNat_natCast]; exact k H3 ((e1.trans e2).trans e3)⟩⟩
theorem ev_sidx {l : List Nat} {c i : Nat} (nd : l.Nodup) (hi : l[i]? = some c) (ha : Ev ta σ H (tx l)) (hb : Ev tb σ H (tx [c])) : Ev (tBM K "str" (fun x xs H Q => ∃ a b i rest, x = .str a ∧ xs = [.str b] ∧ Builtin.Str.occurrences a b 0 a.length 1 = i :: rest ∧ Q (.int (i : Nat)) H) ta (tCons tb tNil)) σ H (.int (i : Int)) :=
  ev_bm ha (fun _ _ => rfl) (ea_cons hb ea_nil) fun H1 _ Q q => by
    obtain ⟨rest, e⟩ := index_one nd hi
    exact ⟨_, _, i, rest, rfl, rfl, e, q H1 (Ex.refl H1)⟩
theorem joinL_nil : ∀ ps : List (List Nat), TL.joinL [] ps = ps.flatten
  | [] => rfl
  | [p] => by
    show p = [p].flatten
    simp
  | p :: q :: r => by
    show p ++ ([] ++ TL.joinL [] (q :: r)) = (p :: q :: r).flatten
    rw [joinL_nil (q :: r)]
    simp
theorem join_flat (ps : List (List Nat)) : Txt.join (SX.S []) (ps.map SX.S) = SX.S ps.flatten := by
  rw [SX.join_S, joinL_nil]
theorem map_tx (ps : List (List Nat)) : ps.map tx = (ps.map SX.S).map V.str := by
  rw [List.map_map]
  rfl
theorem sum_lens : ∀ ps : List (List Nat), ((ps.map SX.S).map (·.length)).sum = ps.flatten.length
  | [] => rfl
  | p :: r => by
    rw [List.map_cons, List.map_cons, List.sum_cons, sum_lens r, SX.S_len, List.flatten_cons, List.length_append]
abbrev rJoin (K : PySem.W.Frag) : V → List V → Hp → VK → Prop := fun x xs H Q => ∃ a p, ∃ ys : List Str, x = .str a ∧ xs = [.ref p] ∧ (SqL K H p (ys.map V.str) ∨ SqT K H p (ys.map V.str)) ∧
  (ys.map (·.length)).sum + ys.length * a.length ≤ 16777216 ∧ Q (.str (Txt.join a ys)) H
theorem join_ok {p : Addr} {ps : List (List Nat)} (hp : SqL K H p (ps.map tx) ∨ SqT K H p (ps.map tx)) (hz : ps.flatten.length ≤ 100000) {Q : VK} (q : Q (tx ps.flatten) H) : rJoin K (tx []) [.ref p] H Q := by
  refine ⟨SX.S [], p, ps.map SX.S, rfl, rfl, by rw [← map_tx]; exact hp, ?_, ?_⟩
  · rw [sum_lens, SX.S_len]
    show _ + _ * 0 ≤ _
    omega
  · rw [join_flat]
    exact q
theorem ev_join {p : Addr} {ps : List (List Nat)} (ha : Ev ta σ H (tx [])) (hb : Ev tb σ H (.ref p)) (hp : SqL K H p (ps.map tx) ∨ SqT K H p (ps.map tx)) (hz : ps.flatten.length ≤ 100000) : Ev (tM1 (rJoin K) ta tb) σ H (tx ps.flatten) := fun H1 e Q q =>
  ha H1 e _ fun H2 e2 => ⟨⟨_, rfl⟩, hb H2 (e.trans e2) _ fun H3 e3 => join_ok (hp.elim (fun h => .inl (ex_l ((e.trans e2).trans e3) h)) (fun h => .inr (ex_t ((e.trans e2).trans e3) h))) hz (q H3 (e2.trans e3))⟩
theorem ev_joinL {ps : List (List Nat)} (ha : Ev ta σ H (tx [])) (hb : EvL tb σ H (ps.map tx)) (hz : ps.flatten.length ≤ 100000) : Ev (tM1 (rJoin K) ta tb) σ H (tx ps.flatten) := fun H1 e Q q =>
  ha H1 e _ fun H2 e2 => ⟨⟨_, rfl⟩, hb H2 (e.trans e2) _ fun p H3 _ e3 h3 => join_ok (.inl (sq_of h3)) hz (q H3 (e2.trans e3))⟩
/-! ### fields -/
theorem ev_fld {p C dx : Addr} {fs : List (Str × V)} {f : Str} {v : V} (h : Ev te σ H (.ref p)) (hp : H p = some (.ins C dx fs)) (c : Cls K C) (n : NoAttr K C f) (hl : fs.lookup f = some v) : Ev (tFld K te f) σ H v := fun H1 e Q q =>
  h H1 e _ fun H2 e2 => ⟨p, C, dx, fs, v, rfl, (e.trans e2) _ _ hp, c, n, hl, q H2 e2⟩
theorem q_fld {p C dx : Addr} {fs : List (Str × V)} {f : Str} {v : V} (hv : Ev te σ H v) (ho : Ev ta σ H (.ref p)) (hp : H p = some (.ins C dx fs)) (c : Cls K C) (n : NoAttr K C f) (hz : fs.length < 1000)
    (k : ∀ H1, Ex H H1 → tz D σ (upd H1 p (.ins C dx (putF f v fs)))) : tSeq (sFld K ta te f) tz D σ H :=
  hv H (Ex.refl H) _ fun H1 e1 => ho H1 e1 _ fun H2 e2 => ⟨p, C, dx, fs, rfl, (e1.trans e2) _ _ hp, c, n, hz, k H2 (e1.trans e2)⟩
theorem q_fldU {p C dx : Addr} {fs : List (Str × V)} {f : Str} {xs : List V} (hv : EvU te σ H xs) (ho : ∀ H1, Ex H H1 → Ev ta σ H1 (.ref p)) (hp : H p = some (.ins C dx fs)) (c : Cls K C) (n : NoAttr K C f) (hz : fs.length < 1000)
    (k : ∀ r H1, H r = none → Ex H H1 → H1 r = some (.tup xs) → tz D σ (upd H1 p (.ins C dx (putF f (.ref r) fs)))) : tSeq (sFld K ta te f) tz D σ H :=
  hv H (Ex.refl H) _ fun r H1 hr e1 h1 => ho H1 e1 H1 (Ex.refl H1) _ fun H2 e2 => ⟨p, C, dx, fs, rfl, (e1.trans e2) _ _ hp, c, n, hz, k r H2 hr (e1.trans e2) (e2 _ _ h1)⟩
theorem s_fldU {p C dx : Addr} {fs : List (Str × V)} {f : Str} {xs : List V} (hv : EvU te σ H xs) (ho : ∀ H1, Ex H H1 → Ev ta σ H1 (.ref p)) (hp : H p = some (.ins C dx fs)) (c : Cls K C) (n : NoAttr K C f) (hz : fs.length < 1000)
    (k : ∀ r H1, H r = none → Ex H H1 → H1 r = some (.tup xs) → D.nx σ (upd H1 p (.ins C dx (putF f (.ref r) fs)))) : sFld K ta te f D σ H :=
  hv H (Ex.refl H) _ fun r H1 hr e1 h1 => ho H1 e1 H1 (Ex.refl H1) _ fun H2 e2 => ⟨p, C, dx, fs, rfl, (e1.trans e2) _ _ hp, c, n, hz, k r H2 hr (e1.trans e2) (e2 _ _ h1)⟩
/-- a call that gives a new tuple -/
def SpU (sp : Sp) (vs : List V) (H : Hp) (xs : List V) : Prop := ∀ H1, Ex H H1 → ∀ Q : VK, (∀ p H2, H1 p = none → Ex H1 H2 → H2 p = some (.tup xs) → Q (.ref p) H2) → ∀ E : XK, sp vs H1 Q E
theorem eu_call {sp : Sp} {dvs vs xs : List V} {E : XK} {tp : TA} (h : EvA tp σ H vs) (hs : SpU sp (vs ++ dvs) H xs) : EvU (tCall sp dvs E tp) σ H xs := fun H1 e Q q =>
  h H1 e _ fun H2 e2 => hs H2 (e.trans e2) Q (fun p H3 hp e3 h3 => q p H3 (fresh_back e2 hp) (e2.trans e3) h3) E
end
end Ver
namespace Ver
open PySem PySem.Spec PyProof.Rows L2 Evl
/-! ### d.setdefault(k, x), tuple keys -/
section
variable {X : Cx}
def rSetT : V → List V → Hp → VK → Prop := fun x xs H Q => ∃ (a : Addr) (kvs : List (List L2.Key × V)) (k : List L2.Key) (b : Addr) (d : V), x = .ref a ∧ xs = [.ref b, d] ∧ H a = some (.dT kvs) ∧ H b = some (.tup (k.map kV)) ∧ kvs.length < sizeLine ∧
  (∀ v, valV kvs k = some v → Q v H) ∧ (valV kvs k = none → Q d (upd H a (.dT (putK kvs k d))))
theorem mt_setT (hu : X.A.units + 1 < cLine) : MtR X "dict.setdefault" rSetT := by
  intro pins s σ H x xs v us Q I rx rxs h
  obtain ⟨a, kvs, k, b, d, rfl, rfl, ha, hb, hl, q1, q2⟩ := h
  cases rx
  obtain ⟨u1, u2, rfl, r1, r2⟩ := vals2 rxs
  cases r1
  obtain ⟨z, hd, xs', rel, dd⟩ := dt_of I.hok ha
  have hz : xs'.length ≤ sizeLine := by rw [← Paired.length rel]; exact z
  refine call_setdefault_heap (hsz := hz) (k := k) (tupleKind_room_in1 hu) (key_of I.hok hb) hd dd (fun p hp => ?_) (fun hn h' dd' hs => ?_)
  · have r := rel.val k
    rw [hp] at r
    obtain ⟨v0, ev, rv⟩ : ∃ v0, valV kvs k = some v0 ∧ RelV v0 p.2 := by
      cases ev : valV kvs k with
      | none =>
        rw [ev] at r
        exact (show False from r).elim
      | some v0 =>
        rw [ev] at r
        exact ⟨v0, rfl, r⟩
    exact ⟨v0, H, I.tok _, rv, q1 v0 ev⟩
  · have r := rel.val k
    rw [hn] at r
    have e : valV kvs k = none := by
      cases ev : valV kvs k with
      | none => rfl
      | some v0 =>
        rw [ev] at r
        exact (show False from r).elim
    obtain ⟨q, es, ep, hq, h2, h3, h4, _, h5⟩ := dd'
    have hl2 : (putK kvs k d).length ≤ sizeLine := by
      have := length_putK kvs k d
      omega
    refine ⟨d, _, d_write (t' := s.toks + (tupleKind (mixKind X.prog X.w)).draws k) (ob := .dT (putK kvs k d)) I (by rw [ha]; exact True.intro) hs ⟨q, hq⟩ ⟨hl2, hd, _, (rel.put k hb r2).keeps fun c ys ec => ?_, q, es, ep, hq, h2, h3, h4, h5⟩, r2, q2 e⟩
    rw [upd_ne (ne_of ec ha (fun z => nomatch z))]
    exact ec
end
def rLenK : List V → Hp → VK → Prop := fun xs H Q => ∃ (p : Addr) (kvs : List (Key × V)), xs = [.ref p] ∧ H p = some (.dK kvs) ∧ Q (.int ((kvs.length : Nat) : Int)) H
theorem call_len_dK {X : Cx} : CallR X (.builtin "len") rLenK := by
  intro pins s σ H xs us Q I r h
  obtain ⟨p, kvs, rfl, hp, q⟩ := h
  obtain ⟨u, rfl, rx⟩ := vals1 r
  obtain rfl : u = .ref p := rx
  exact d_len I (.inl hp) fun t s' I' => ⟨.int ((kvs.length : Nat) : Int), H, I', ⟨_, rfl⟩, q⟩
theorem q_newK {σ : L2.St} {H : Hp} {D : Ends} {tz : TS} {i : Nat} (k : ∀ p H1, H p = none → Ex H H1 → H1 p = some (.dK []) → tz D (σ.set i (some (.ref p))) H1) : tSeq (tAsg tDNewK (gName i)) tz D σ H := fun p hp => k p _ hp (Ex.new hp) upd_same
/-! ### zip of a text and a list -/
def Izsl (K : PySem.W.Frag) (x : Str) (b : Addr) (ys : List V) : It where
  go := fun i H => i < x.cps.size ∧ i < ys.length ∧ SqL K H b ys
  yld := fun i H v H' => ∃ T c y, v = .ref T ∧ H T = none ∧ H' = upd H T (.tup [.str ⟨#[c]⟩, y]) ∧ x.cps[i]? = some c ∧ ys[i]? = some y
  stop := fun i H => i ≤ x.cps.size ∧ i ≤ ys.length ∧ (i = x.cps.size ∨ i = ys.length) ∧ SqL K H b ys
section
variable {P : Program} {w : World} {K : PySem.W.Frag} {elts : List Expr} {kk : Nat} {tpos : Pos}
theorem turnZsl (x : Str) (ys : List V) (t : Tok) (z TI TO i1 i2 b : Addr) (S : ZipSep2 z TI TO i1 i2 [i1] [i2, b]) (hne : b ≠ i2) : Turn P w K (.Tuple elts kk tpos) (Izsl K x b ys) [z, TI, TO, i1, i2] z
    (fun i h => IsZip h z TI TO .none ∧ IsTupOf2 h TI (.ref i1) (.ref i2) ∧ (∃ a1 a2, IsTupOf2 h TO a1 a2) ∧ h.IsStrIter i1 (strIterType x) x t i ∧ h.IsListIter i2 b i) where
  mem := List.mem_cons_self ..
  obj := fun i h st c hc => by
    obtain ⟨hz, hTI, ⟨a1, a2, hTO⟩, ⟨o1, e1, _, d1⟩, ⟨o2, e2, _, d2⟩⟩ := st
    rcases five_mem hc with q | q | q | q | q
    · rw [q]; exact ⟨_, hz, fun v q => nomatch q⟩
    · rw [q]; exact ⟨_, hTI, fun v q => nomatch q⟩
    · rw [q]; exact ⟨_, hTO, fun v q => nomatch q⟩
    · rw [q]; exact ⟨o1, e1, fun v q => by rw [d1] at q; cases q⟩
    · rw [q]; exact ⟨o2, e2, fun v q => by rw [d2] at q; cases q⟩
  keep := fun i h h' st k => by
    obtain ⟨hz, hTI, ⟨a1, a2, hTO⟩, h1, h2⟩ := st
    exact ⟨k z (by simp) _ hz, k TI (by simp) _ hTI, ⟨a1, a2, k TO (by simp) _ hTO⟩, si_at h1 fun o q => k i1 (by simp) o q, h2.at fun o q => k i2 (by simp) o q⟩
  item := by
    intro X hP hw hK hc i pins s σ H E I hf st hg
    subst hP hw hK
    obtain ⟨hz, hTI, ⟨a1, a2, hTO⟩, h1, h2⟩ := st
    obtain ⟨its, rv, p, _⟩ := I.list hg.2.2
    have D1 := Draws.text (prog := X.prog) (w := X.w) (A := X.A.in1) (I.ok.hd hc) i1 x t
    have D2 := Draws.list (prog := X.prog) (w := X.w) (A := X.A.in1) (I.ok.hd hc) i2 b hne its.toArray
    have hzl : z < s.heap.objs.size := Heap.lt_size hz
    have l1 : i1 < s.heap.objs.size := by
      obtain ⟨o, e, _⟩ := h1
      exact Heap.lt_size e
    have l2 : i2 < s.heap.objs.size := by
      obtain ⟨o, e, _⟩ := h2
      exact Heap.lt_size e
    have hlen := rv.length
    refine wpAny_pyNext_zipD2_item S D1 D2 hz hTI hTO h1 ⟨h2, p.isList⟩ hg.1 (by rw [List.size_toArray, ← hlen]; exact hg.2.1) fun y1 y2 h' tk ⟨c, u1, hc1, ev1⟩ hy2 b1 b2 s1 s2 hT hsz hk => ?_
    subst ev1
    have hy3 : its[i]? = some y2 := by simpa using hy2
    have hyi : ys[i]? = some (ys[i]'hg.2.1) := List.getElem?_eq_getElem hg.2.1
    obtain ⟨u2, hu2, ru2⟩ := rv.get hyi
    obtain rfl : u2 = y2 := Option.some.inj (hu2.symm.trans hy3)
    refine ⟨_, rfl, wpAny_letOwnedTupleGo_zip (s := { s with heap := h', toks := tk }) b1 fun h'' z'' sb => ?_⟩
    have hT2 : h''.get? s.heap.objs.size = some { cls := .type "tuple", data := .seq #[.str ⟨#[c]⟩ u1, u2] } := (sb.2 _ (Nat.ne_of_gt hzl)).trans hT
    have new : ObjOk X.prog X.w (upd H s.heap.objs.size (.tup [.str ⟨#[c]⟩, ys[i]'hg.2.1])) h'' s.heap.objs.size (.tup [.str ⟨#[c]⟩, ys[i]'hg.2.1]) :=
      ⟨(by show 2 ≤ sizeLine; decide), [.str ⟨#[c]⟩ u1, u2], .cons ⟨_, rfl⟩ (.cons ru2 .nil), ⟨_, hT2, rfl, _, rfl⟩⟩
    have I1 : Inv X pins σ (upd H s.heap.objs.size (.tup [.str ⟨#[c]⟩, ys[i]'hg.2.1])) { s with heap := h'', toks := tk } := by
      refine I.turnedNew (ch := [z, TI, TO, i1, i2]) (fun b ob nb q => ?_) hf (Nat.le_refl _) new
      exact (sb.2 b (fun q' => nb (by simp [q']))).trans (hk b ob (fun q' => nb (by simp [q'])) (fun q' => nb (by simp [q'])) (fun q' => nb (by simp [q'])) (fun q' => nb (by simp [q'])) q)
    refine ⟨.ref s.heap.objs.size, _, I1, rfl, ⟨_, c, _, rfl, I.hok.fresh (Nat.le_refl _), rfl, hc1, hyi⟩, ⟨z'', ?_, ⟨.str ⟨#[c]⟩ u1, u2, ?_⟩, ?_, ?_⟩, fun b hb => ?_⟩
    · exact (sb.2 _ S.TIz).trans (hk _ _ S.TIz S.TITO S.TIi1 S.TIi2 hTI)
    · exact (sb.2 _ S.TOz).trans b2
    · exact si_at s1 fun o q => (sb.2 _ S.zi1.symm).trans q
    · exact s2.1.at fun o q => (sb.2 _ S.zi2.symm).trans q
    · have hlt : b < s.heap.objs.size := by
        rcases five_mem hb with q | q | q | q | q
        · rw [q]; exact hzl
        · rw [q]; exact Heap.lt_size hTI
        · rw [q]; exact Heap.lt_size hTO
        · rw [q]; exact l1
        · rw [q]; exact l2
      rw [upd_ne (Nat.ne_of_lt hlt)]
      exact (hf b hb).1
  done := by
    intro X hP hw hK hc i pins s σ H E I hf st hg
    subst hP hw hK
    obtain ⟨hz, hTI, ⟨a1, a2, hTO⟩, h1, h2⟩ := st
    obtain ⟨its, rv, p, _⟩ := I.list hg.2.2.2
    have hlen := rv.length
    have D1 := Draws.text (prog := X.prog) (w := X.w) (A := X.A.in1) (I.ok.hd hc) i1 x t
    have D2 := Draws.list (prog := X.prog) (w := X.w) (A := X.A.in1) (I.ok.hd hc) i2 b hne its.toArray
    exact wpAny_pyNext_zipD2_end S D1 D2 hz hTI hTO h1 ⟨h2, p.isList⟩ hg.1 (by rw [List.size_toArray, ← hlen]; exact hg.2.1) (by have h9 := hg.2.2.1; rw [hlen] at h9; exact h9) fun h' tk hk => ⟨rfl, I.turnedL (t' := tk) (ch := [z, TI, TO, i1, i2]) (fun c o hb q =>
      hk c o (fun q' => hb (by simp [q'])) (fun q' => hb (by simp [q'])) (fun q' => hb (by simp [q'])) (fun q' => hb (by simp [q'])) q) hf⟩
  self := fun A i s Q E st h => wpAny_pyIter_zip st.1 h
theorem sep_nl (n b : Nat) (h : b < n) : ZipSep2 (n + 4) (n + 2) (n + 3) n (n + 1) [n] [n + 1, b] := by
  have two : ∀ c : Addr, c ∈ [(show Addr from n + 1), (show Addr from b)] → c = (show Addr from n + 1) ∨ c = (show Addr from b) := fun c h => by simpa using h
  have no : ∀ m : Nat, m ≠ n + 1 → m ≠ b → (show Addr from m) ∉ [(show Addr from n + 1), (show Addr from b)] := fun m h1 h2 h => (two _ h).elim h1 h2
  exact ⟨ne_nat (by omega), ne_nat (by omega), ne_nat (by omega), ne_nat (by omega), List.mem_singleton.mpr rfl, fun h => absurd (List.mem_singleton.mp h) (ne_nat (by omega)), fun h => absurd (List.mem_singleton.mp h) (ne_nat (by omega)),
    ne_nat (by omega), List.mem_cons_self .., no _ (by omega) (by omega), no _ (by omega) (by omega), no _ (by omega) (by omega), fun h => absurd (List.mem_singleton.mp h) (ne_nat (by omega))⟩
def iZipSL (K : PySem.W.Frag) (ta : TA) : TI := fun σ H R => ta σ H fun vs H1 => ∃ x b ys, vs = [.str x, .ref b] ∧ SqL K H1 b ys ∧ R (Izsl K x b ys) H1
theorem pi_zipSL {X : Cx} {e e2 : Expr} {ta : TA} {p pos tpos : Pos} {elts : List Expr} {kk : Nat} (hg : Gl X "zip") (hm : X.mg "zip" = none) (ha : PA X [e, e2] ta)
    (hs : starEach [e, e2] X.env = (false, eval e X.env) :: starEach [e2] X.env := by rfl) (hpl : (backTo pos (starEach [e2] X.env)).any (·.1) = false := by rfl) :
    PI X (.Tuple elts kk tpos) (.Call (.Name "zip" p) [e, e2] [] pos) (iZipSL X.K ta) := by
  refine ⟨fun pins s σ H R I h => ?_⟩
  refine Call_ (ld_blt I hg hm PyProof.Rows.boot_zip (PyProof.Rows.callWith_type1 (thn (ha.run pos pins s σ H _ I h) fun us s1 ⟨vs, H1, I1, r1, q1⟩ => ?_) hs hpl))
  obtain ⟨x, b, ys, ex, hb, q⟩ := q1
  subst ex
  cases r1 with
  | cons r rr =>
    cases rr with
    | cons r' rr =>
      cases rr
      obtain ⟨t, rfl⟩ := r
      cases r'
      obtain ⟨its, rv, p1, _⟩ := I1.list hb
      refine zip_begins2 (begins_text x t) (begins_list b its.toArray) trivial p1.isList fun h' hz hTI hTO g1 g2 hsz hk => wpAny_pyIter_zip hz ?_
      have I2 : Inv X pins σ H1 { s1 with heap := h' } := I1.kept (t' := s1.toks) hk
      have S := sep_nl s1.heap.objs.size b p1.lt
      refine ⟨s1.heap.objs.size + 4, [s1.heap.objs.size + 4, s1.heap.objs.size + 2, s1.heap.objs.size + 3, s1.heap.objs.size, s1.heap.objs.size + 1], _, _, H1, rfl, I2, turnZsl x ys t _ _ _ _ _ b S (fun e => absurd (show (show Nat from b) = s1.heap.objs.size + 1 from e) (by have h9 : (show Nat from b) < s1.heap.objs.size := p1.lt; omega)), ⟨hz, hTI, ⟨_, _, hTO⟩, ⟨_, g1, rfl, rfl⟩, ⟨_, g2, rfl, rfl⟩⟩, fun c hcm => ?_, q⟩
      have hle : s1.heap.objs.size ≤ c := by
        rcases five_mem hcm with z | z | z | z | z
        · rw [z]; exact Nat.le_add_right _ _
        · rw [z]; exact Nat.le_add_right _ _
        · rw [z]; exact Nat.le_add_right _ _
        · rw [z]; exact Nat.le_refl _
        · rw [z]; exact Nat.le_add_right _ _
      exact I1.fpOk hle (I1.hok.fresh hle)
theorem walk_zsl {x : Str} {b : Addr} {ys : List V} : Walk (Izsl K x b ys) (min x.cps.size ys.length) (fun H => SqL K H b ys) (YPair (fun i => (x.cps.toList[i]?).map fun c => V.str ⟨#[c]⟩) (fun i => ys[i]?)) := by
  refine ⟨fun i _ hi q => ?_, fun _ q => ?_, fun i H v H' hi q y' => ?_⟩
  · exact ⟨by omega, by omega, q⟩
  · exact ⟨by omega, by omega, by omega, q⟩
  obtain ⟨T, c, d, h1, h2, h3, h4, h5⟩ := y'
  refine ⟨T, .str ⟨#[c]⟩, d, h1, h2, h3, ?_, h5⟩
  show Option.map _ (x.cps.toList[i]?) = _
  rw [Array.getElem?_toList, h4]
  rfl
/-! ### lists of tuples -/
structure TpAt (H : Hp) (xs : List V) (ps : List (List V)) : Prop where
  len : xs.length = ps.length
  row : ∀ (i : Nat) (p : List V), ps[i]? = some p → ∃ r, xs[i]? = some (V.ref r) ∧ H r = some (.tup p)
theorem TpAt.mono {H H' : Hp} {xs : List V} {ps : List (List V)} (h : TpAt H xs ps) (e : Ex H H') : TpAt H' xs ps := ⟨h.len, fun i p q => by
  obtain ⟨r, a, b⟩ := h.row i p q
  exact ⟨r, a, e _ _ b⟩⟩
theorem TpAt.upd {H : Hp} {xs : List V} {ps : List (List V)} {l : Addr} {o u : HO} (h : TpAt H xs ps) (hl : H l = some u) (hu : ∀ ys, u ≠ .tup ys) : TpAt (upd H l o) xs ps := ⟨h.len, fun i p q => by
  obtain ⟨r, a, b⟩ := h.row i p q
  refine ⟨r, a, ?_⟩
  rw [upd_ne]
  · exact b
  · intro z
    rw [z, hl] at b
    exact hu _ (Option.some.inj b)⟩
theorem TpAt.nil {H : Hp} : TpAt H [] [] := ⟨rfl, fun i p q => by simp at q⟩
theorem TpAt.snoc {H : Hp} {xs : List V} {ps : List (List V)} {r : Addr} {p : List V} (h : TpAt H xs ps) (hr : H r = some (.tup p)) : TpAt H (xs ++ [.ref r]) (ps ++ [p]) := by
  refine ⟨by rw [List.length_append, List.length_append, h.len]; rfl, fun i q e => ?_⟩
  by_cases hi : i < ps.length
  · rw [List.getElem?_append_left hi] at e
    obtain ⟨r', a, b⟩ := h.row i q e
    exact ⟨r', by rw [List.getElem?_append_left (by rw [h.len]; exact hi)]; exact a, b⟩
  · have h1 := (List.getElem?_eq_some_iff.mp e).1
    rw [List.length_append] at h1
    have e2 : i = ps.length := by
      simp at h1
      omega
    subst e2
    have e3 : p = q := by simpa using e
    subst e3
    refine ⟨r, ?_, hr⟩
    rw [← h.len]
    simp
/-- a new list of new tuples over zip(a text, a list) -/
theorem run_lcZ {σ : L2.St} {H : Hp} {te : TE} {x : List Nat} {b : Addr} {ys : List V} {tp : TA} {j1 j2 : Nat} {vs : List Nat} {Q : VK} (v : Nat → List V) (h : EvA tp σ H [tx x, .ref b]) (hy : SqL K H b ys) (hl : ys.length = x.length) (hz : x.length ≤ 40000)
    (hw : ∀ a b, wipe (((wipe σ vs).set j1 (some a)).set j2 (some b)) vs = wipe σ vs)
    (he : ∀ (i c : Nat) (y : V) H1, Ex H H1 → x[i]? = some c → ys[i]? = some y → EvU te (((wipe σ vs).set j1 (some (tx [c]))).set j2 (some y)) H1 (v i))
    (k : ∀ l xs H1, H l = none → Ex H H1 → H1 l = some (.lst xs) → TpAt H1 xs ((List.range x.length).map v) → Q (.ref l) H1) :
    tLc (iZipSL K tp) (gTup K 2 (gCons (gName j1) (gCons (gName j2) gNil))) tYes te vs σ H Q := h H (Ex.refl H) _ fun H1 e1 => ⟨SX.S x, b, ys, rfl, ex_l e1 hy, fun Dl hD => by
  have hn : min (SX.S x).cps.size ys.length = x.length := by
    show min x.toArray.size ys.length = _
    rw [List.size_toArray, hl, Nat.min_self]
  have hD0 : H Dl = none := fresh_back e1 hD
  refine lc_it walk_zsl (fun i H' => Ex H H' ∧ ∃ xs, H' Dl = some (.lst xs) ∧ TpAt H' xs ((List.range i).map v)) ⟨e1.trans (Ex.new hD), [], upd_same, .nil⟩ (fun i H' _ p => ex_l p.1 hy) (fun i z H' H2 hi p yp => ?_) (fun H' p => ?_)
  · obtain ⟨T, a, d, rfl, hT, rfl, ha, hd⟩ := yp
    obtain ⟨p1, xs, p2, p3⟩ := p
    have ha2 : (x[i]?).map (fun c => tx [c]) = some a := ha
    have hd2 : ys[i]? = some d := hd
    cases hx : x[i]? with
    | none =>
      rw [hx] at ha2
      cases ha2
    | some c =>
    rw [hx] at ha2
    cases ha2
    have hxl := (List.getElem?_eq_some_iff.mp hx).1
    have e2 : Ex H (L2.upd H' T (.tup [tx [c], d])) := p1.trans (Ex.new hT)
    refine ⟨T, _, rfl, st_of upd_same, rfl, _, _, rfl, _, _, rfl, rfl, hw _ _, ?_⟩
    refine et_yes _ (Ex.refl _) _ fun H3 e3 => ?_
    rw [if_pos rfl]
    have e3' : Ex H H3 := e2.trans e3
    refine he i c d H3 e3' hx hd2 H3 (Ex.refl _) _ fun r H4 hr e4 h4 => ?_
    have g4 := e4 _ _ (e3 _ _ (Ex.new hT _ _ p2))
    have hlen := p3.len
    rw [List.length_map, List.length_range] at hlen
    refine ⟨xs, g4, sz_lt (by omega), (e3'.trans e4).mut hD0, xs ++ [.ref r], upd_same, ?_⟩
    rw [List.range_succ, List.map_append]
    have hTp := ((p3.mono ((Ex.new hT).trans (e3.trans e4))).snoc h4)
    exact hTp.upd g4 (fun ys => by intro z; cases z)
  · rw [hn] at p
    obtain ⟨p1, xs, p2, p3⟩ := p
    exact k Dl xs H' hD0 p1 p2 p3⟩
end
/-! ### text.find(text, start) -/
section
theorem take_getD {l : List Nat} {i : Nat} (h : i < l.length) : l[i]? = some (l.getD i 0) := by
  rw [List.getD_eq_getElem?_getD, List.getElem?_eq_getElem h]
  rfl
end
end Ver
namespace Ver
open PySem PySem.Spec PyProof.Rows L2 Evl
/-! ### math.isqrt -/
def rIsq : List V → Hp → VK → Prop := fun vs H Q => ∃ a : Int, vs = [.int a] ∧ 0 ≤ a ∧ a < 2 ^ 200 ∧ ∀ r : Nat, r * r ≤ a.toNat → a.toNat < (r + 1) * (r + 1) → Q (.int (r : Int)) H
theorem Vals.int1 {a : Int} {us : List Value} (r : Vals [.int a] us) : ∃ t, us = [.int a t] := by
  cases r with
  | cons h t =>
    cases t
    obtain ⟨t, rfl⟩ := h
    exact ⟨t, rfl⟩
theorem cr_isqrt {X : Cx} : CallR X (.builtin "math.isqrt") rIsq := by
  intro pins s σ H vs us Q I r h
  obtain ⟨a, rfl, h0, h1, q⟩ := h
  obtain ⟨t, rfl⟩ := Vals.int1 r
  have hl : a.toNat.log2 ≤ 199 := PySem.W.mg_log (by
    have : (a.toNat : Int) < 2 ^ 200 := by omega
    exact_mod_cast this)
  obtain ⟨k1, k2⟩ := PySem.Float64.isqrt_spec a.toNat
  exact PySem.call_function_meets PySem.W.MGF.kind_isqrt PySem.W.MGF.plain_isqrt PySem.W.MGF.entry_isqrt (PySem.W.MGF.args_isqrt _) (PySem.W.mg_run_isqrt a t (by omega) (by omega) (by omega)).meets ⟨.int _, H, I.tok _, ⟨_, rfl⟩, q _ k1 k2⟩
theorem q_asgX {σ : L2.St} {H : Hp} {D : Ends} {tz : TS} {te : TE} {i : Nat} (h : te σ H fun x H1 => tz D (σ.set i (some x)) H1) : tSeq (tAsg te (gName i)) tz D σ H := h
/-- a list made over enumerate(a list) -/
theorem el_lcEn {σ : L2.St} {H : Hp} {K : PySem.W.Frag} {te : TE} {a : Addr} {xs : List V} {tp : TA} {j1 j2 : Nat} {vs : List Nat} (v : Nat → V) (h : EvA tp σ H [.ref a]) (hx : SqL K H a xs) (hz : xs.length ≤ 40000)
    (hw : ∀ a b, wipe (((wipe σ vs).set j1 (some a)).set j2 (some b)) vs = wipe σ vs)
    (he : ∀ (i : Nat) (x : V) H1, Ex H H1 → xs[i]? = some x → Ev te (((wipe σ vs).set j1 (some (.int (i : Int)))).set j2 (some x)) H1 (v i)) :
    EvL (tLc (iEnum K tp) (gTup K 2 (gCons (gName j1) (gCons (gName j2) gNil))) tYes te vs) σ H ((List.range xs.length).map v) := fun H0 e Q q => h H0 e _ fun H1 e1 => ⟨a, xs, rfl, ex_l (e.trans e1) hx, fun Dl hD => by
  refine lc_it (walk_enum (xs := xs)) (Cw H1 (fun _ => true) v Dl) ⟨hD, Ex.new hD, upd_same⟩ (fun i H' _ p => ex_l (((e.trans e1).trans p.2.1)) hx) (fun i z H' H2 hi p yp => ?_) (fun H' p => ?_)
  · obtain ⟨T, c, d, rfl, hT, rfl, ha, hb⟩ := yp
    obtain rfl := Option.some.inj ha
    have hb2 : xs[i]? = some d := hb
    have hxl := (List.getElem?_eq_some_iff.mp hb2).1
    have p2 : Cw H1 (fun _ => true) v Dl i (L2.upd H' T (.tup [.int (i : Int), d])) := ⟨p.1, p.2.1.trans (Ex.new hT), Ex.new hT _ _ p.2.2⟩
    exact ⟨T, _, rfl, st_of upd_same, rfl, _, _, rfl, _, _, rfl, rfl, hw _ _, cw_turn p2 (by omega) et_yes fun _ => he i d H1 (e.trans e1) hb2⟩
  · have e9 := given_all xs.length v
    have p3 := p.2.2
    rw [e9] at p3
    exact q Dl H' (fresh_back e1 p.1) (e1.trans p.2.1) p3⟩
theorem root_ex {a : Int} (h : 0 ≤ a) : ∃ r : Nat, (r : Int) * r ≤ a ∧ a < ((r : Int) + 1) * (r + 1) := by
  obtain ⟨k1, k2⟩ := PySem.Float64.isqrt_spec a.toNat
  refine ⟨PySem.Float64.isqrt a.toNat, ?_, ?_⟩
  · have : ((PySem.Float64.isqrt a.toNat * PySem.Float64.isqrt a.toNat : Nat) : Int) ≤ a := by omega
    rw [Int.natCast_mul] at this
    exact this
  · have : a < (((PySem.Float64.isqrt a.toNat + 1) * (PySem.Float64.isqrt a.toNat + 1) : Nat) : Int) := by omega
    rw [Int.natCast_mul, Int.natCast_add] at this
    exact this
/-- a def's call with a value and a new list -/
theorem ev_cVL {σ : L2.St} {H : Hp} {sp : Sp} {E : XK} {t1 tl : TE} {x1 y : V} {xs : List V} (h1 : Ev t1 σ H x1) (hl : EvL tl σ H xs) (hs : ∀ p H1, Ex H H1 → H1 p = some (.lst xs) → SpV sp ([x1, .ref p] ++ []) H1 y) : Ev (tCall sp [] E (tCons t1 (tCons tl tNil))) σ H y := fun H0 e Q q =>
  h1 H0 e _ fun H1 e1 => hl H1 (e.trans e1) _ fun p H2 hp e2 g2 => hs p H2 ((e.trans e1).trans e2) g2 H2 (Ex.refl H2) Q (fun H3 e3 => q H3 ((e1.trans e2).trans e3)) _
theorem sum_cast {α : Type} (f : α → Nat) : ∀ l : List α, (l.map fun x => ((f x : Nat) : Int)).sum = ((l.map f).sum : Int)
  | [] => rfl
  | a :: l => by
    rw [List.map_cons, List.map_cons, List.sum_cons, List.sum_cons, sum_cast f l, Int.natCast_add]
/-! ### own methods -/
structure AtM (K : PySem.W.Frag) (C : Addr) (m q : Str) (st : Stmt) : Prop where
  ex : ∃ f fd, Fun K m q st f fd ∧ Meth K C m f
def HasM (P : Program) (w : World) (K : PySem.W.Frag) (mg : Str → Option Value) (base : Heap) (C : Addr) (m : Str) (ps : List Str) (k : Nat) (sp : Sp) : Prop :=
  ∃ f fd, FnOk P w K mg base CX0 k f fd ps sp ∧ Binds K fd ps [] ∧ Meth K C m f
section
variable {σ : L2.St} {H : Hp}
theorem ev_isqrt {ta : TE} {a : Int} {Q : V → Prop} (ha : Ev ta σ H (.int a)) (h0 : 0 ≤ a) (h1 : a < 2 ^ 200) (r : Nat) (hr : (r : Int) * r ≤ a) (hr2 : a < ((r : Int) + 1) * (r + 1)) : Ev (tCB rIsq (tCons ta tNil)) σ H (.int (r : Int)) := fun H1 e Q q =>
  ha H1 e _ fun H2 e2 => ⟨a, rfl, h0, h1, fun s k1 k2 => by
    have e1 : s = r := by
      have a1 : s * s < (r + 1) * (r + 1) := by
        have : ((s * s : Nat) : Int) < (((r + 1) * (r + 1) : Nat) : Int) := by
          rw [Int.natCast_mul, Int.natCast_mul, Int.natCast_add]
          have : ((s * s : Nat) : Int) ≤ a := by omega
          rw [Int.natCast_mul] at this
          exact Int.lt_of_le_of_lt this hr2
        omega
      have a2 : r * r < (s + 1) * (s + 1) := by
        have : ((r * r : Nat) : Int) ≤ a := by
          rw [Int.natCast_mul]
          exact hr
        omega
      have b1 : s < r + 1 := Classical.byContradiction fun c => absurd (Nat.mul_le_mul (show r + 1 ≤ s by omega) (show r + 1 ≤ s by omega)) (by omega)
      have b2 : r < s + 1 := Classical.byContradiction fun c => absurd (Nat.mul_le_mul (show s + 1 ≤ r by omega) (show s + 1 ≤ r by omega)) (by omega)
      omega
    rw [e1]
    exact q H2 e2⟩
/-- the call of an own method -/
theorem ev_meth {C a dx : Addr} {fs : List (Str × V)} {m : Str} {sp : Sp} {ta : TE} {t : TA} {vs : List V} {v : V} {E : XK} (ha : Ev ta σ H (.ref a)) (hi : H a = some (.ins C dx fs)) (hl : fs.lookup m = none) (ht : EvA t σ H vs) (h : ∀ H1, Ex H H1 → ∀ Q : VK, (∀ H2, Ex H1 H2 → Q v H2) → sp (.ref a :: (vs ++ [])) H1 Q E) :
    Ev (tMeth C m sp [] E ta t) σ H v := fun H1 e Q q => ha H1 e _ fun H2 e2 => ⟨a, dx, fs, rfl, (e.trans e2) _ _ hi, hl, ht H2 (e.trans e2) _ fun H3 e3 => h H3 ((e.trans e2).trans e3) Q fun H4 e4 => q H4 ((e2.trans e3).trans e4)⟩
end
end Ver
namespace Ver
open PySem PySem.Spec PyProof.Rows L2
/-! ### try: .. except X as n: .. except Y as n: .. -/
def asEnds (i : Nat) (D : Ends) : Ends := { nx := fun σ' H' => D.nx (σ'.set i none) H', rt := D.rt, bk := fun σ' H' => D.bk (σ'.set i none) H', ct := fun σ' H' => D.ct (σ'.set i none) H' }
abbrev Suite := Addr → Value → Option Addr → TS
/-- what the clauses wish of an error of the body, one after the other; slot i is their name's -/
def wMas (K : PySem.W.Frag) (i : Nat) (Wout : WX) (D : Ends) : List (Value × Suite) → WX
  | [] => Wout
  | (c, ts) :: r => fun cls d σ H => ∃ b, PySem.W.exmOne K cls c = some b ∧ (b = true → ∀ a, H a = none → ts a cls d (asEnds i D) (σ.set i (some (.ref a))) H) ∧ (b = false → wMas K i Wout D r cls d σ H)
inductive HdsAs (X : Cx) (n : Str) : List ExceptHandler → List (Value × Suite) → Prop
  | nil : HdsAs X n [] []
  | cons {x : Str} {c : Value} {ts : Suite} {b₀ : Stmt} {suite : List Stmt} {np pos' : Pos} {hds : List ExceptHandler} {l : List (Value × Suite)} (hc : Names X x c)
      (hsu : ∀ (a : Addr) (oe : Obj) (cls : Value) (d : Option Addr) (pn : List (Addr × Obj)), Zc cls d oe → (∃ vs, oe.data = .fields vs) → PSs (X.suite a ((a, oe) :: pn)) (b₀ :: suite) (ts a cls d)) (r : HdsAs X n hds l) :
      HdsAs X n (.ExceptHandler (some (.Name x np)) (some n) (b₀ :: suite) pos' :: hds) ((c, ts) :: l)
section
variable {X : Cx} {body : List Stmt} {n : Str} {i : Nat} {h₀ : ExceptHandler} {hds : List ExceptHandler} {l : List (Value × Suite)} {pos : Pos} {tb : WX → TS} {Wout : WX}
theorem ps_try_mas (hs : X.stack = X.env :: X.outer) (hf : X.env.frame = some X.env.locals) (hN : X.N.Nodup) (hi : X.N[i]? = some n) (hln : X.env.kindOf n = some .local) (tk : Takes X Wout)
    (hb : ∀ (W : WX) (pn : List (Addr × Obj)) (xe : Value → Shared → Prop), Takes (X.tr pn xe) W → PassesOwn (model X.prog X.w) X.A X.env xe → PSs (X.tr pn xe) body (tb W))
    (hh : HdsAs X n (h₀ :: hds) l) : PS X (.Try body (h₀ :: hds) [] [] pos) (fun D σ H => tb (wMas X.K i Wout D l) D σ H) := by
  refine ⟨fun pins s σ H D I h => ?_⟩
  have ok := I.ok
  have hfr : X.A.frames = some (X.env :: X.outer) := by rw [ok.frames, hs]
  have hloc : Loc X.env.scope n := .inl hln
  refine wpAny_Try_except ?_
  refine wpAny_mono ((hb (wMas X.K i Wout D l) (X.pn ++ pins) (fun e s₁ => wpAny (model X.prog X.w) X.A (noteFrame e X.env) (fun _ s₂ => wpAny (model X.prog X.w) X.A (setFlight e none) (fun _ s₃ =>
    wpAny (model X.prog X.w) X.A (handleBy e X.env (h₀ :: hds)) (SP X pins D) X.xe s₃) X.xe s₂) X.xe s₁) (fun u s' xx => ?_) PassesOwn.looking).run [] s σ H D (I.toTry _) h) (fun f s1 hsp => ?_) (fun e s1 he => he)
  · obtain ⟨a, B, sI, pins', σ', H', cls, d, rfl, J', nb, up, sky, na, os, ag, w⟩ := xx
    have J : Inv X pins σ' H' sI := J'.ofTry ok
    have sky' : Sky B (X.env :: X.outer) a (Zc cls d) X.env.locals s'.heap := by rw [← hs]; exact sky
    show wpAny (model X.prog X.w) X.A (noteFrame (.ref a) X.env) _ _ _
    refine Sky.land Zc.steady hfr hf sky' fun h3 fl3 up3 => ?_
    have J3 : Inv X pins σ' H' { s' with heap := h3 } := J.landed nb fl3.1 (up.trans up3) os ag
    obtain ⟨oe3, vs3, he3, hz3, hd3⟩ := fl3.there
    have notFr : ∀ {h : Heap} {o : Obj} {vs : Array Value}, h.FunFrames B (X.env :: X.outer) → h.get? a = some o → o.data = .fields vs → a ∉ frs (X.env :: X.outer) := fun {h o vs} ff e dd hm => by
      obtain ⟨_, o', e', hnf⟩ := ff.mem hm
      rw [e] at e'; cases e'
      exact hnf _ dd
    have nfr := notFr fl3.2.2.1 he3 hd3
    have nL : a ≠ X.env.locals := fun z => nfr (List.mem_filterMap.mpr ⟨X.env, List.mem_cons_self, by rw [hf, z]⟩)
    have nF : a ∉ X.fs := fun hm => by
      obtain ⟨e, he, q⟩ := List.mem_filterMap.mp hm
      exact nfr (List.mem_filterMap.mpr ⟨e, List.mem_cons_of_mem _ he, q⟩)
    have S3 := J3.suite he3 hd3 na nL nF
    have go : ∀ {hds' : List ExceptHandler} {l' : List (Value × Suite)}, HdsAs X n hds' l' → wMas X.K i Wout D l' cls d σ' H' →
        wpAny (model X.prog X.w) X.A (handleBy (.ref a) X.env hds') (SP X pins D) X.xe { s' with heap := h3 } := by
      intro hds' l' hk
      induction hk with
      | nil =>
        intro w
        refine wpAny_handleBy_nil ?_
        obtain ⟨k1, k2, k3, oe, vs, T, oT, ts', he, hz, hd, h1, hr⟩ := id fl3
        unfold PySem.passOn
        refine wpAny_bind (wpAny_field he hd h1 ?_)
        rw [if_neg (show ¬ ((Value.ref T == Value.none) = true) from by simp)]
        have fin : wpAny (model X.prog X.w) X.A (setFlight (.ref a) X.env.frame) (fun _ s4 => wpAny (model X.prog X.w) X.A (throw (.ref a) : Sem Flow) (SP X pins D) X.xe s4) X.xe { s' with heap := h3 } := by
          rw [hf]
          refine HandSPX.setFlight_upZ fl3 fun h4 hh4 up4 => wpAny_throw (tk _ _ ?_)
          exact ⟨a, B, sI, pins, σ', H', cls, d, rfl, J, nb, (up.trans up3).trans up4, .inr (.inr (by rw [hs]; exact hh4)), na, os, ag, w⟩
        first
          | exact wpAny_bind (wpAny_pure (wpAny_bind fin))
          | exact wpAny_bind fin
      | @cons x c ts b₀ suite np pos' hds2 l2 hc hsu r ih =>
        intro w
        obtain ⟨b, hb1, hyes, hno⟩ := w
        refine wpAny_handleBy_cons (codeAny_handlers_test ?_) (by intro q; cases q)
        have LT : PySem.W.Looks (model X.prog X.w) h3 (typeOf (.ref a)) cls := fun A Q E s k q => wpAny_typeOf_ref (k _ _ he3) (by rw [hz3.1]; exact q)
        have LM := PySem.W.exm_one (M := model X.prog X.w) (J3.kIn) LT hb1
        have test : ∀ {Q : Value → Shared → Prop} {E : Value → Shared → Prop}, Q c { s' with heap := h3 } → wpAny (model X.prog X.w) (X.A.mark (some (.ref a))) (eval (.Name x np) X.env) Q E { s' with heap := h3 } := fun {Q E} q => by
          obtain ⟨hg, hdbg, hm | ⟨hm, hv, hnn⟩⟩ := hc
          · exact ld_glob (X := X.suite a ((a, oe3) :: (X.pn ++ pins))) S3 hg hm q hdbg
          · exact ld_blt (X := X.suite a ((a, oe3) :: (X.pn ++ pins))) S3 hg hm hv q hnn hdbg
        refine test (LM.here ?_)
        cases b with
        | true =>
          refine codeAny_handlers_suite_as ?_
          refine HandSPX.lands_againZ fl3 fun h4 fl4 up4 => ?_
          have J4 : Inv X pins σ' H' { s' with heap := h4 } := J.landed nb fl4.1 ((up.trans up3).trans up4) os ag
          obtain ⟨oe4, vs4, he4, hz4, hd4⟩ := fl4.there
          have S4 := J4.suite he4 hd4 na nL nF
          refine store_ok (X := X.suite a ((a, oe4) :: (X.pn ++ pins))) (v := .ref a) S4 hN hi hloc rfl (fun s5 S5 => ?_) (.inr hln)
          refine wpAny_mono ((hsu a oe4 cls d (X.pn ++ pins) hz4 ⟨_, hd4⟩).run [] s5 _ H' _ S5 (hyes rfl a na)) (fun f s6 hsp => ?_) (fun _ _ z => False.elim z)
          have end_ : ∀ {σ6 : L2.St} {H6 : Hp} {Q : Shared → Prop}, Inv (X.suite a ((a, oe4) :: (X.pn ++ pins))) [] σ6 H6 s6 → (∀ s7, Inv X pins (σ6.set i none) H6 s7 → Q s7) →
              wpAny (model X.prog X.w) X.A (do bindName X.env n .none; unbindBehindTheSuite X.env n pos') (fun _ s7 => Q s7) X.xe s6 := fun {σ6 H6 Q} S6 hq => gone_ok (S6.unsuite ok) hN hi hln hq
          cases f with
          | next =>
            obtain ⟨σ6, H6, S6, q6⟩ := hsp
            exact end_ S6 fun s7 J7 => ⟨_, _, J7, q6⟩
          | brk =>
            obtain ⟨σ6, H6, S6, q6⟩ := hsp
            exact end_ S6 fun s7 J7 => ⟨_, _, J7, q6⟩
          | cont =>
            obtain ⟨σ6, H6, S6, q6⟩ := hsp
            exact end_ S6 fun s7 J7 => ⟨_, _, J7, q6⟩
          | ret u =>
            obtain ⟨v6, σ6, H6, S6, r6, q6⟩ := hsp
            exact end_ S6 fun s7 J7 => ⟨_, _, _, J7, r6, q6⟩
        | false =>
          show wpAny _ X.A (handleBy (.ref a) X.env hds2) _ _ _
          exact ih (hno rfl)
    exact go hh w
  · cases f with
    | next =>
      obtain ⟨σ', H', J', q⟩ := hsp
      exact wpAny_execs_nil ⟨σ', H', J'.ofTry ok, q⟩
    | brk =>
      obtain ⟨σ', H', J', q⟩ := hsp
      exact ⟨σ', H', J'.ofTry ok, q⟩
    | cont =>
      obtain ⟨σ', H', J', q⟩ := hsp
      exact ⟨σ', H', J'.ofTry ok, q⟩
    | ret u =>
      obtain ⟨v, σ', H', J', r, q⟩ := hsp
      exact ⟨v, σ', H', J'.ofTry ok, r, q⟩
end
theorem roomM {k : Nat} {A : Around} {v : Option Value} (r : Room k A) : L2H.RoomH k (A.mark v) := ⟨r.dp, r.un⟩
/-! ### a def that is handed the caught error -/
open L2H in
structure FnP (P : Program) (w : World) (K : PySem.W.Frag) (mg : Str → Option Value) (base : Heap) (k : Nat) (f : Addr) (fd : FuncData) (ps : List Str) (sp : Addr → Value → Option Addr → Sp) : Prop where
  len : ∀ a cls d vs H Q E, sp a cls d vs H Q E → vs.length = ps.length
  run : ∀ (A : Around) (outer : List Env) (s : Shared) (H : Hp) (args : Args) (us : List Value) (vs : List V) (Q : VK) (E : XK) (p : Addr × Obj) (cls : Value) (d : Option Addr), RoomH k A → PinOk outer H s p → Zc cls d p.2 → (∃ fv, p.2.data = .fields fv) → Env0 P w K mg base A outer s H → BindsTo s fd args (ps.zip us) → Vals vs us → sp p.1 cls d vs H Q E →
    codeAny (model P w) A (.call (.ref f) args) (CR CX0 outer P w H s Q E) s
open L2H in
theorem fn_ofP {P : Program} {w : World} {K : PySem.W.Frag} {mg : Str → Option Value} {base : Heap} {k : Nat} {f : Addr} {name qual : Str} {params : Arguments} {body : List Stmt} {scope : Scope} {dV kV doc pm cdv ct oc : Value} {an od : Option Addr}
    {osl : Array (Option Value)} {N ps : List Str} {sp : Addr → Value → Option Addr → Sp} (lk : K.lookup f = some ⟨oc, od, .func (PySem.W.fnOf name qual params body scope dV kV doc pm an cdv ct), osl⟩) (hcd : PySem.W.codeIn K cdv qual = true) (S : FnScope N ps scope)
    (len : ∀ a cls d vs H Q E, sp a cls d vs H Q E → vs.length = ps.length)
    (hbody : ∀ (A : Around) (outer : List Env) (s : Shared) (H : Hp) (vs : List V) (Q : VK) (E : XK) (p : Addr × Obj) (cls : Value) (d : Option Addr), Zc cls d p.2 → (∃ fv, p.2.data = .fields fv) → RoomH k (A.deeper (envOfC qual scope s.heap.objs.size f cdv)) → sp p.1 cls d vs H Q E →
      ∃ t, PSs (cxH CX0 P w K mg base N qual scope f cdv A outer s H E p) body t ∧ t { nx := fun _ H' => Q .non H', rt := Q } (L2.start N vs) H) :
    FnP P w K mg base (k + 1) f (PySem.W.fnOf name qual params body scope dV kV doc pm an cdv ct) ps sp := by
  refine ⟨len, fun A outer s H args us vs Q E p cls d hr hpin hz hf e0 hb r hsp => ?_⟩
  have hl := len _ _ _ _ _ _ _ hsp
  have KX : K.In s.heap := e0.mod.kin.keeps fun b o e => (e0.bs b o e).1
  have lim : s.heap.NoLimit := e0.mod.nolimit.keeps fun b o e => (e0.bs b o e).1
  have hkind : ∀ y ∈ ps.zip us, scope.names.lookup y.1 = some .local ∨ (scope.names.lookup y.1 = some .cell ∧ ((cellsFrom (s.heap.objs.size + 1) scope.names []).lookup y.1).isSome = true) := fun ⟨n, v⟩ hy => by
    rcases S.par n (List.of_mem_zip hy).1 with q | q
    · exact .inl q
    · exact .inr ⟨q, PySem.W.cellsFrom_some _ _ _ (.inl q)⟩
  refine codeAny_call_function hr.depth (KX _ _ lk) rfl S.co S.gen rfl (PySem.W.codeRec_of KX hcd) (hb _ _ _ _ ?_)
  refine wpAny_newFunctionEnv_cells S.kind hkind fun env he s1 x => ?_
  subst he
  refine ⟨lim.keeps x.toInCall.keep, codeAny_func ?_⟩
  obtain ⟨t, ht, hq⟩ := hbody A outer s H vs Q E p cls d hz hf (hr.deeper _) hsp
  have I : Inv (cxH CX0 P w K mg base N qual scope f cdv A outer s H E p) [] (L2.start N vs) H s1 := inv_startH S hpin e0 hl r x
  refine wpAny_mono (ht.run [] s1 (L2.start N vs) H _ I hq) (fun fl s' hs => ?_) fun e s' hs => hs
  have fin : ∀ {σ' : L2.St} {H' : Hp} {v : V} {u : Value}, Inv (cxH CX0 P w K mg base N qual scope f cdv A outer s H E p) [] σ' H' s' → RelV v u → Q v H' → CE outer P w H s Q u s' :=
    fun {σ' H' v u} J rv q => ⟨v, H', J.os, J.bare, J.base, J.hok, rv, q⟩
  cases fl with
  | ret u =>
    obtain ⟨v, σ', H', J, rv, q⟩ := hs
    exact fin J rv q
  | next =>
    obtain ⟨σ', H', J, q⟩ := hs
    exact fin (v := V.non) (u := Value.none) J rfl q
  | brk =>
    obtain ⟨_, _, _, q⟩ := hs
    exact False.elim q
  | cont =>
    obtain ⟨_, _, _, q⟩ := hs
    exact False.elim q
section
variable {X : Cx} {k : Nat} {f : Addr} {fd : FuncData} {ps : List Str} {sp : Addr → Value → Option Addr → Sp} {x : Str} {q pos : Pos} {e : Expr} {es : List Expr} {t : TA}
open L2H in
theorem pe_callP {p : Addr × Obj} {a : Addr} {cls : Value} {d : Option Addr} (ea : p.1 = a) (F : FnP X.prog X.w X.K X.mg X.base k f fd ps sp) (hr : RoomH k X.A) (hp : p ∈ X.pn) (hz : Zc cls d p.2) (hf : ∃ fv, p.2.data = .fields fv) (hg : Gl X x) (hm : X.mg x = some (.ref f)) (hk : PySem.W.keepIn X.K (.ref f) = true) (hb : Binds X.K fd ps [])
    (ha : PA X (e :: es) t) (hdb : (x == ("__debug__" : Str)) = false := by decide) (he : starEach (e :: es) X.env = (false, eval e X.env) :: starEach es X.env := by rfl) (hpl : (backTo pos (starEach es X.env)).any (·.1) = false := by rfl) :
    PE X (.Call (.Name x q) (e :: es) [] pos) (tCall (sp a cls d) [] E0 t) := by
  subst ea
  refine ⟨fun pins s σ H Q I h => ?_⟩
  refine wpAny_Call_Name_kw (ld_glob I hg hm ?_ hdb)
  refine PySem.W.callWith_K (h₀ := X.base) I.ok.mod.kin hk (thn (ha.run pos pins s σ H _ I h) fun us s1 ⟨vs, H1, I1, r, h1⟩ => ⟨I1.kIn, ?_⟩) he hpl
  have h : sp p.1 cls d vs H1 Q E0 := by
    have h2 : sp p.1 cls d (vs ++ []) H1 Q E0 := h1
    rw [List.append_nil] at h2
    exact h2
  have hl : us.length = ps.length := by rw [← r.length]; exact F.len _ _ _ _ _ _ _ h
  have b := hb s1 us I1.kIn (by rw [List.append_nil]; exact hl)
  rw [List.append_nil] at b
  have P1 := I1.pin p (List.mem_append_left _ hp)
  have hpin : PinOk X.stack H1 s1 p := ⟨P1.1, P1.2.1, fun hm => (List.mem_cons.mp (I1.stkSub p.1 hm)).elim P1.2.2.1 P1.2.2.2.1, P1.2.2.2.2⟩
  refine wpAny_call (codeAny_mono (F.run X.A X.stack s1 H1 ⟨us, []⟩ us vs Q E0 p cls d hr hpin hz hf I1.env0 b r h) fun r s' hq => ?_)
  cases r with
  | error e => exact hq.elim
  | ok fl =>
    cases fl with
    | ret u => exact I1.after hq
    | next => exact False.elim hq
    | brk => exact False.elim hq
    | cont => exact False.elim hq
end
/-- n.f, n the error at a -/
def tXp (a : Addr) (cls : Value) (d : Option Addr) (C : Addr) (f : Str) (te : TE) : TE := fun σ H Q => te σ H fun x H1 => x = .ref a ∧ cls = .ref C ∧ ∃ (dd : Addr) (fs : List (Str × V)) (v : V), d = some dd ∧ H1 dd = some (.xd fs) ∧ fs.lookup f = some v ∧ Q v H1
theorem pe_xp {X : Cx} {C : Addr} {p : Addr × Obj} {a : Addr} {cls : Value} {d : Option Addr} {e : Expr} {te : TE} {pos : Pos} {n : Str} (ea : p.1 = a) (hp : p ∈ X.pn) (T : XfC X.K C) (hno : PySem.W.findIn X.K (.ref C) n = some none)
    (hz : Zc cls d p.2) (hf : ∃ vs, p.2.data = .fields vs) (he : PE X e te) (hb : attributeBase e n X.env (eval e X.env) = eval e X.env := by rfl) : PE X (.Attribute e n pos) (tXp a cls d C n te) := by
  subst ea
  refine ⟨fun pins s σ H Q I h => ?_⟩
  refine attr_of hb (thn (he.run pins s σ H _ I h) fun u s1 hh => ?_)
  obtain ⟨x, H1, I1, rx, ex, ec, dd, fs, v, ed, ea, l, q⟩ := hh
  subst ex
  obtain rfl : u = Value.ref p.1 := rx
  subst ec
  subst ed
  obtain ⟨ha, _⟩ := I1.pin p (List.mem_append_left _ hp)
  obtain ⟨vs, hd⟩ := hf
  have hx : ObjOk X.prog X.w H1 s1.heap dd (.xd fs) := I1.hok dd _ ea
  obtain ⟨mA, hns, hr⟩ := hx
  obtain ⟨od, ho, hl⟩ := lookIn_ns hns
  obtain ⟨u, hu, ru⟩ := RelO.some_of (v := v) (o := mA n) (by rw [← l]; exact hr n)
  have J : PySem.W.InstAt s1.heap p.1 p.2 C (some od) := ⟨ha, hz.1, by unfold PySem.W.notCls; rw [hd] <;> rfl, by rw [hz.2]; exact ho⟩
  exact HandSPX.exc_get I1.kIn J T.ga T.gg T.exC (PySem.W.findObj_own T.hdC hno rfl (by rw [hl, hu])) (handed_of ru) ⟨v, H1, I1.tok _, ru, q⟩
end Ver
namespace Ver
open PySem PySem.Spec PyProof.Rows L2
section
variable {X : Cx} {C : Addr} {bmB : List Value} {B newId initId : String} {x : Str} {p pos : Pos}
/-- X(), an error class without fields: a new object -/
theorem pe_exc0 (F : ExcBaseFacts B newId initId bmB) (q : PySem.W.excIn X.K C bmB newId = true) (hg : Gl X x) (gC : X.mg x = some (.ref C)) (kC : PySem.W.keepIn X.K (.ref C) = true) (hdb : (x == ("__debug__" : Str)) = false := by decide) :
    PE X (.Call (.Name x p) [] [] pos) (fun _ H Q => ∀ a, H a = none → Q (.ref a) (upd H a (ExO (.ref C) a))) := by
  refine ⟨fun pins s σ H Q I h => ?_⟩
  refine wpAny_Call_Name_kw (ld_glob I hg gC ?_ hdb)
  refine PySem.W.callWith_K0 I.kIn kC ?_
  obtain ⟨bm, N, nm, qn, bs, hdct, sn, sub, ab, col, dd, k0, k1, k2, k3, k5, mN, hC, hN, hni, T⟩ := exc_obj I.kIn q
  refine wpAny_call_exc_subT F T hC hN hni (fun h' a hm => ?_) (by show 0 ≤ sizeLine; exact Nat.zero_le _)
  have hn : H a = none := I.hok.gone hm.new
  obtain ⟨t, ht, _, _⟩ := hm.there
  exact ⟨.ref a, upd H a (ExO (.ref C) a), I.laidN hm.keeps hm.new hn (exO_ok ht ⟨rfl, rfl⟩ rfl rfl rfl (show 4 < 6 by decide)), rfl, h a hn⟩
/-- .. raised -/
theorem pmk_exc0 (F : ExcBaseFacts B newId initId bmB) (q : PySem.W.excIn X.K C bmB newId = true) (hg : Gl X x) (gC : X.mg x = some (.ref C)) (kC : PySem.W.keepIn X.K (.ref C) = true) (r : Raises X (.ref C)) (hdb : (x == ("__debug__" : Str)) = false := by decide) :
    PMk X (.Call (.Name x p) [] [] pos) (fun _ H Q => Q (.ref C) none H) := by
  intro pins s σ H Q I h
  refine wpAny_Call_Name_kw (ld_glob I hg gC ?_ hdb)
  refine PySem.W.callWith_K0 I.kIn kC ?_
  obtain ⟨bm, N, nm, qn, bs, hdct, sn, sub, ab, col, dd, k0, k1, k2, k3, k5, mN, hC, hN, hni, T⟩ := exc_obj I.kIn q
  refine wpAny_call_exc_subT F T hC hN hni (fun h' e hm => ?_) (by show 0 ≤ sizeLine; exact Nat.zero_le _)
  exact mk_of I hm r h (I.hok.gone hm.new)
end
/-! ### isinstance(e, C), isinstance(e, (A, B, ..)): of an error that stands by, of one that is held -/
theorem pin_at {X : Cx} {pins : List (Addr × Obj)} {σ : L2.St} {H : Hp} {s : Shared} {D : Addr} {p : Addr × Obj} {d : Option Addr} (I : Inv X pins σ H s) (hp : p ∈ X.pn) (hz : Zc (.ref D) d p.2) (hf : ∃ vs, p.2.data = .fields vs) (hd : ∀ dd, d = some dd → ∃ fs, H dd = some (.xd fs)) :
    ∃ od : Option Obj, PySem.W.InstAt s.heap p.1 p.2 D od := by
  obtain ⟨vs, hv⟩ := hf
  obtain ⟨hget, _⟩ := I.pin p (List.mem_append_left _ hp)
  cases d with
  | none =>
    refine ⟨none, ?_⟩
    obtain ⟨a, oc, od, oda, osl⟩ := p
    obtain ⟨h1, h2⟩ := hz
    dsimp only at h1 h2 hv hget
    subst h1 h2 hv
    exact ⟨hget, rfl, rfl, trivial⟩
  | some dd =>
    obtain ⟨fs, ea⟩ := hd dd rfl
    have hx : ObjOk X.prog X.w H s.heap dd (.xd fs) := I.hok dd _ ea
    obtain ⟨mA, hns, hr⟩ := hx
    obtain ⟨od, ho, hl⟩ := lookIn_ns hns
    exact ⟨some od, hget, hz.1, by unfold PySem.W.notCls; rw [hv] <;> rfl, by rw [hz.2]; exact ho⟩
theorem held_at {X : Cx} {pins : List (Addr × Obj)} {σ : L2.St} {H : Hp} {s : Shared} {D a : Addr} (I : Inv X pins σ H s) (ha : H a = some (ExO (.ref D) a)) : ∃ oe : Obj, PySem.W.InstAt s.heap a oe D none := by
  obtain ⟨⟨oe, vs, ho, hz, hv, _⟩, _, _⟩ := I.hok a _ ha
  refine ⟨oe, ?_⟩
  obtain ⟨oc, od, oda, osl⟩ := oe
  obtain ⟨h1, h2⟩ := hz
  dsimp only at h1 h2 hv
  subst h1 h2 hv
  exact ⟨ho, rfl, rfl, trivial⟩
theorem excC_kit {K : PySem.W.Frag} {D a : Addr} {ox : Obj} {od : Option Obj} (C : ExcC K D) : PySem.W.KitX K (.ref a) (.ref D) (fun h => PySem.W.InstAt h a ox D od) :=
  PySem.W.kitx_exc (by obtain ⟨cd, hc, _⟩ := PySem.W.any_some C.hd; rw [hc]; rfl) C.hg C.hk C.hs C.ha C.hn C.ht C.hm
def rIsS (K : PySem.W.Frag) (a : Addr) (cls : Value) (d : Option Addr) : List V → Hp → VK → Prop := fun xs H Q => ∃ (D : Addr) (c : V) (cv : Value) (b : Bool), xs = [.ref a, c] ∧ cls = .ref D ∧ ExcC K D ∧ (∀ dd, d = some dd → ∃ fs, H dd = some (.xd fs)) ∧ ClsV c cv ∧ PySem.W.kitOne K (.ref D) cv = some b ∧ Q (.bl b) H
theorem call_isS {X : Cx} {K : PySem.W.Frag} {p : Addr × Obj} {a : Addr} {cls : Value} {d : Option Addr} (ek : X.K = K) (ea : p.1 = a) (hp : p ∈ X.pn) (hz : Zc cls d p.2) (hf : ∃ vs, p.2.data = .fields vs) : CallR X (.builtin "isinstance") (rIsS K a cls d) := by
  subst ea
  subst ek
  intro pins s σ H xs us Q I r h
  obtain ⟨D, c, cv, b, rfl, rfl, C, hd, hcv, e, q⟩ := h
  obtain ⟨u1, u2, rfl, r1, r2⟩ := vals2 r
  cases (show u1 = Value.ref p.1 from r1)
  obtain ⟨od, J⟩ := pin_at I hp hz hf hd
  have e3 := ClsV.all (.cons hcv .nil) (show Vals [c] [u2] from .cons r2 .nil)
  simp only [List.cons.injEq, and_true] at e3
  subst e3
  exact PySem.W.kia_one (excC_kit C) I.kIn J e (fun z => nomatch z) fun tk => ⟨.bl b, H, I.tok tk, rfl, q⟩
def rIsST (K : PySem.W.Frag) (a : Addr) (cls : Value) (d : Option Addr) : List V → Hp → VK → Prop := fun xs H Q => ∃ (D tp : Addr) (cs : List V) (cvs : List Value) (b : Bool), xs = [.ref a, .ref tp] ∧ cls = .ref D ∧ ExcC K D ∧ (∀ dd, d = some dd → ∃ fs, H dd = some (.xd fs)) ∧ H tp = some (.tup cs) ∧ Paired ClsV cs cvs ∧ PySem.W.kitAny K (.ref D) cvs = some b ∧ Q (.bl b) H
theorem call_isST {X : Cx} {K : PySem.W.Frag} {p : Addr × Obj} {a : Addr} {cls : Value} {d : Option Addr} (ek : X.K = K) (ea : p.1 = a) (hp : p ∈ X.pn) (hz : Zc cls d p.2) (hf : ∃ vs, p.2.data = .fields vs) : CallR X (.builtin "isinstance") (rIsST K a cls d) := by
  subst ea
  subst ek
  intro pins s σ H xs us Q I r h
  obtain ⟨D, tp, cs, cvs, b, rfl, rfl, C, hd, hT, k, e, q⟩ := h
  obtain ⟨u1, u2, rfl, r1, r2⟩ := vals2 r
  cases (show u1 = Value.ref p.1 from r1)
  cases (show u2 = Value.ref tp from r2)
  obtain ⟨od, J⟩ := pin_at I hp hz hf hd
  obtain ⟨_, its, rv, o, h1, h2, n, h3⟩ := (show ObjOk X.prog X.w H s.heap tp (.tup cs) from I.hok tp _ hT)
  have e3 := ClsV.all k rv
  subst e3
  obtain ⟨oc, od2, dt, sl⟩ := o
  simp only at h2 h3
  subst h2 h3
  exact PySem.W.kia_tup (excC_kit C) I.kIn J h1 e (fun z => nomatch z) fun tk => ⟨.bl b, H, I.tok tk, rfl, q⟩
def rIsO (K : PySem.W.Frag) : List V → Hp → VK → Prop := fun xs H Q => ∃ (a D : Addr) (c : V) (cv : Value) (b : Bool), xs = [.ref a, c] ∧ ExcC K D ∧ H a = some (ExO (.ref D) a) ∧ ClsV c cv ∧ PySem.W.kitOne K (.ref D) cv = some b ∧ Q (.bl b) H
theorem call_isO {X : Cx} : CallR X (.builtin "isinstance") (rIsO X.K) := by
  intro pins s σ H xs us Q I r h
  obtain ⟨a, D, c, cv, b, rfl, C, hE, hcv, e, q⟩ := h
  obtain ⟨u1, u2, rfl, r1, r2⟩ := vals2 r
  cases (show u1 = Value.ref a from r1)
  obtain ⟨ox, J⟩ := held_at I hE
  have e3 := ClsV.all (.cons hcv .nil) (show Vals [c] [u2] from .cons r2 .nil)
  simp only [List.cons.injEq, and_true] at e3
  subst e3
  exact PySem.W.kia_one (excC_kit C) I.kIn J e (fun z => nomatch z) fun tk => ⟨.bl b, H, I.tok tk, rfl, q⟩
def rIsOT (K : PySem.W.Frag) : List V → Hp → VK → Prop := fun xs H Q => ∃ (a D tp : Addr) (cs : List V) (cvs : List Value) (b : Bool), xs = [.ref a, .ref tp] ∧ ExcC K D ∧ H a = some (ExO (.ref D) a) ∧ H tp = some (.tup cs) ∧ Paired ClsV cs cvs ∧ PySem.W.kitAny K (.ref D) cvs = some b ∧ Q (.bl b) H
theorem call_isOT {X : Cx} : CallR X (.builtin "isinstance") (rIsOT X.K) := by
  intro pins s σ H xs us Q I r h
  obtain ⟨a, D, tp, cs, cvs, b, rfl, C, hE, hT, k, e, q⟩ := h
  obtain ⟨u1, u2, rfl, r1, r2⟩ := vals2 r
  cases (show u1 = Value.ref a from r1)
  cases (show u2 = Value.ref tp from r2)
  obtain ⟨ox, J⟩ := held_at I hE
  obtain ⟨_, its, rv, o, h1, h2, n, h3⟩ := (show ObjOk X.prog X.w H s.heap tp (.tup cs) from I.hok tp _ hT)
  have e3 := ClsV.all k rv
  subst e3
  obtain ⟨oc, od2, dt, sl⟩ := o
  simp only at h2 h3
  subst h2 h3
  exact PySem.W.kia_tup (excC_kit C) I.kIn J h1 e (fun z => nomatch z) fun tk => ⟨.bl b, H, I.tok tk, rfl, q⟩
end Ver
namespace Ver
open PySem PySem.Spec PyProof.Rows L2 Evl
/-! ### a def that raises nothing, where errors may go by -/
theorem FnOk.up {P : Program} {w : World} {K : PySem.W.Frag} {mg : Str → Option Value} {base : Heap} {k : Nat} {f : Addr} {fd : FuncData} {ps : List Str} {sp : Sp} (F : FnOk P w K mg base CX0 k f fd ps sp) : FnOk P w K mg base (L2.CX P w) k f fd ps sp :=
  ⟨F.len, fun A outer s H args us vs Q E hr he hb hv hs => codeAny_mono (F.run A outer s H args us vs Q E hr he hb hv hs) fun r s' hq => by
    cases r with
    | error e => exact hq.elim
    | ok fl => cases fl <;> exact hq⟩
theorem FnOk.both {P : Program} {w : World} {K : PySem.W.Frag} {mg : Str → Option Value} {base : Heap} {CX : CXT} {k : Nat} {f : Addr} {fd : FuncData} {ps : List Str} {sp sp' : Sp} (F : FnOk P w K mg base CX k f fd ps sp) (G : FnOk P w K mg base CX k f fd ps sp') :
    FnOk P w K mg base CX k f fd ps fun vs H Q E => sp vs H Q E ∨ sp' vs H Q E :=
  ⟨fun vs H Q E h => h.elim (F.len _ _ _ _) (G.len _ _ _ _), fun A outer s H args us vs Q E hr he hb hv hs => hs.elim (F.run A outer s H args us vs Q E hr he hb hv) (G.run A outer s H args us vs Q E hr he hb hv)⟩
/-! ### C(..), whose __init__ may raise -/
section
variable {X : Cx} {CX : CXT} {k : Nat} {f C : Addr} {fd : FuncData} {ps : List Str} {sp : Sp} {E : L2.St → XK} {x : Str} {p pos : Pos} {e : Expr} {es : List Expr} {t : TA}
theorem run_makeS {pins : List (Addr × Obj)} {σ : L2.St} {H : Hp} {s : Shared} {Q : VK} {us : List Value} {vs : List V} (M : Mk X.K C f) (F : FnOk X.prog X.w X.K X.mg X.base CX k f fd ps sp) (hr : Room (k + 1) X.A) (hb : L2.Binds X.K fd ps [])
    (hx : PassesAt CX X σ (E σ)) (I : Inv X pins σ H s) (r : Vals vs us)
    (h : ∀ x dx, H x = none → H dx = none → dx ≠ x → sp (.ref x :: vs) (L2.upd (L2.upd H dx (.own x)) x (.ins C dx [])) (fun v H2 => v = .non ∧ Q (.ref x) H2) (E σ)) :
    wpAny (model X.prog X.w) X.A (call (.ref C) us) (EP X pins σ Q) X.xe s := by
  have hq := h (s.heap.objs.size + 1) s.heap.objs.size (I.hok.fresh (Nat.le_succ _)) (I.hok.fresh (Nat.le_refl _)) (Nat.ne_of_lt (Nat.lt_succ_self _))
  have I2 := Inv.made (C := C) I
  have r2 : Vals (V.ref (s.heap.objs.size + 1) :: vs) (Value.ref (s.heap.objs.size + 1) :: us) := .cons rfl r
  have hl : (Value.ref (s.heap.objs.size + 1) :: us ++ []).length = ps.length := by
    have e := r2.length
    rw [F.len _ _ _ _ hq] at e
    rw [List.append_nil]
    exact e.symm
  have b := hb _ (Value.ref (s.heap.objs.size + 1) :: us) I2.kIn hl
  rw [List.append_nil] at b
  refine wpAny_call (make_map (f := f) I.kIn M.makes M.init (beq_iff_eq.mp M.fn) (codeAny_mono (F.run _ X.stack _ _ ⟨Value.ref (s.heap.objs.size + 1) :: us, []⟩ (Value.ref (s.heap.objs.size + 1) :: us) _ _ (E σ) (hr.make C us [])
    (I2.env0.make C us []) b r2 hq) fun r s' hq' => ?_))
  cases r with
  | error e => exact hx pins _ _ e s' I2 hq'
  | ok fl =>
    cases fl with
    | ret u =>
      obtain ⟨v, H', I3, rv, ev, q3⟩ := I2.after hq'
      subst ev
      exact ⟨rv, ⟨V.ref (s.heap.objs.size + 1), H', I3, rfl, q3⟩⟩
    | next => exact False.elim hq'
    | brk => exact False.elim hq'
    | cont => exact False.elim hq'
def tMakeS (C : Addr) (sp : Sp) (E : L2.St → XK) (t : TA) : TE := fun σ H Q => t σ H fun vs H1 => ∀ x dx, H1 x = none → H1 dx = none → dx ≠ x → sp (.ref x :: vs) (L2.upd (L2.upd H1 dx (.own x)) x (.ins C dx [])) (fun v H2 => v = .non ∧ Q (.ref x) H2) (E σ)
theorem pe_makeS (M : Mk X.K C f) (F : FnOk X.prog X.w X.K X.mg X.base CX k f fd ps sp) (hr : Room (k + 1) X.A) (hg : Gl X x) (hm : X.mg x = some (.ref C)) (hb : L2.Binds X.K fd ps []) (hx : ∀ σ, PassesAt CX X σ (E σ))
    (ha : PA X (e :: es) t) (hdb : (x == ("__debug__" : Str)) = false := by decide) (he : starEach (e :: es) X.env = (false, eval e X.env) :: starEach es X.env := by rfl) (hpl : (backTo pos (starEach es X.env)).any (·.1) = false := by rfl) :
    PE X (.Call (.Name x p) (e :: es) [] pos) (tMakeS C sp E t) := by
  refine ⟨fun pins s σ H Q I h => ?_⟩
  refine wpAny_Call_Name_kw (ld_glob I hg hm ?_ hdb)
  refine PySem.W.callWith_K (h₀ := X.base) I.ok.mod.kin M.kp (thn (ha.run pos pins s σ H _ I h) fun us s1 ⟨vs, H1, I1, r, q⟩ => ⟨I1.kIn, ?_⟩) he hpl
  exact run_makeS M F hr hb (hx σ) I1 r q
end
/-! ### errors with fields -/
/-- __init__ of an error: its fields are fs of what it is handed -/
def spErr (C : Addr) (n : Nat) (fs : List V → List (Str × V)) : Sp := fun vs H Q _ => ∃ (a : Addr) (us : List V), vs = .ref a :: us ∧ us.length = n ∧ H a = some (exo a C none) ∧ ∀ dx H2, H dx = none → dx ≠ a → H2 a = some (exo a C (some dx)) → H2 dx = some (exd dx (fs us)) → (∀ b, b ≠ a → b ≠ dx → H2 b = H b) → Q .non H2
/-- what a def that raises promises: an error of the class at C with these fields, told of the heap behind it -/
def RetE (C : Addr) (fs : List (Str × V)) (H : Hp) (E : XK) : Prop := ∀ d H2, Ex H H2 → H d = none → H2 d = some (.xd fs) → E (.ref C) (some d) H2
def RetE0 (C : Addr) (H : Hp) (E : XK) : Prop := ∀ H2, Ex H H2 → E (.ref C) none H2
/-- an error class with fields -/
structure ErrC (P : Program) (w : World) (K : PySem.W.Frag) (mg : Str → Option Value) (base : Heap) (x : Str) (C : Addr) (n : Nat) (ps : List Str) (fs : List V → List (Str × V)) : Prop where
  o : OexC K C
  g : mg x = some (.ref C)
  xf : XfC K C
  ec : ExcC K C
  init : ∃ fI fd, PySem.W.findIn K (.ref C) "__init__" = some (some (.ref fI)) ∧ PySem.W.typeIn K (.ref fI) = some (.type "function") ∧ FnOk P w K mg base CX0 1 fI fd ps (spErr C n fs) ∧ L2.Binds K fd ps []
section
variable {X : Cx} {C : Addr} {n : Nat} {ps : List Str} {fs : List V → List (Str × V)} {x : Str} {p pos pos2 : Pos} {e : Expr} {es : List Expr} {ta : TA} {W : WX}
def tRaiseE (C : Addr) (n : Nat) (fs : List V → List (Str × V)) (W : WX) (ta : TA) : TS := fun _ σ H => tMkO C (spErr C n fs) [] ta σ H fun cls d H' => W cls d σ H'
theorem ps_raiseE (hc : X.calm = true) (G : ErrC X.prog X.w X.K X.mg X.base x C n ps fs) (hr : Room 2 X.A) (tk : Takes X W) (ha : PA X (e :: es) ta) (hg : Gl X x) (hdb : (x == ("__debug__" : Str)) = false := by decide) (he : starEach (e :: es) X.env = (false, eval e X.env) :: starEach es X.env := by rfl) (hpl : (backTo pos (starEach es X.env)).any (·.1) = false := by rfl) :
    PS X (.Raise (some (.Call (.Name x p) (e :: es) [] pos)) none pos2) (tRaiseE C n fs W ta) := by
  obtain ⟨fI, fd, iC, tI, F1, hb⟩ := G.init
  exact ps_raise hc tk (pmk_oex (dvs := []) (ds := []) G.o iC tI F1 hr hb .nil pass0 hg G.g ha hdb he hpl)
theorem s_raiseE {σ : L2.St} {H : Hp} {D : Ends} {vs : List V} (h : EvA ta σ H vs) (hl : vs.length = n) (hn : n ≤ 1000) (k : ∀ H1, Ex H H1 → ∀ d, H1 d = none → W (.ref C) (some d) σ (L2.upd H1 d (.xd (fs vs)))) : tRaiseE C n fs W ta D σ H :=
  h H (Ex.refl H) _ fun H1 e1 => ⟨by omega, fun a ha => ⟨a, vs, by rw [List.append_nil], hl, upd_same, fun dx H2 h1 h2 h3 h4 h5 => ⟨rfl, dx, fs vs, h3, h4, by
    rw [upd_ne h2] at h1
    exact h1, by
    have e : L2.upd (L2.del H2 a) dx (.xd (fs vs)) = L2.upd H1 dx (.xd (fs vs)) := by
      funext b
      by_cases c : b = dx
      · rw [c, upd_same, upd_same]
      · rw [upd_ne c, upd_ne c]
        by_cases c2 : b = a
        · rw [c2, L2.del_same, ha]
        · rw [L2.del_ne c2, h5 b c2 c, upd_ne c2]
    rw [e]
    rw [upd_ne h2] at h1
    exact k H1 e1 dx h1⟩⟩⟩
/-- .. out of a def -/
theorem s_raiseR {σ : L2.St} {H H0 : Hp} {D : Ends} {vs : List V} {E : XK} (h : EvA ta σ H vs) (hl : vs.length = n) (hn : n ≤ 1000) (e0 : Ex H0 H) (q : RetE C (fs vs) H0 E) : tRaiseE C n fs (fun cls d _ H => E cls d H) ta D σ H :=
  s_raiseE h hl hn fun H1 e1 d hd => q d _ ((e0.trans e1).trans (Ex.new hd)) (fresh_back (e0.trans e1) hd) upd_same
end
/-- an error class without fields -/
structure ErrO (K : PySem.W.Frag) (mg : Str → Option Value) (x : Str) (C : Addr) : Prop where
  g : mg x = some (.ref C)
  q : PySem.W.excIn K C [.type "ValueError", .type "Exception", .type "BaseException", .type "object"] "ValueError.__new__" = true
  kC : PySem.W.keepIn K (.ref C) = true
  tyC : PySem.W.typeIn K (.ref C) = some (.type "type")
  ec : ExcC K C
def tRaise0 (C : Addr) (W : WX) : TS := fun _ σ H => W (.ref C) none σ H
theorem ps_raise0 {X : Cx} {C : Addr} {x : Str} {p pos pos2 : Pos} {W : WX} (hc : X.calm = true) (G : ErrO X.K X.mg x C) (tk : Takes X W) (hg : Gl X x) (hdb : (x == ("__debug__" : Str)) = false := by decide) :
    PS X (.Raise (some (.Call (.Name x p) [] [] pos)) none pos2) (tRaise0 C W) := ps_raise hc tk (pmk_exc0 PySem.F.excBase_ValueError G.q hg G.g G.kC (raises_own G.ec.hs G.tyC) hdb)
/-- a def that is handed the caught error -/
theorem okP {P : Program} {w : World} {K : PySem.W.Frag} {mg : Str → Option Value} {base : Heap} {x qual : Str} {st : Stmt} {f : Addr} {fd : FuncData} {N ps : List Str} {k : Nat} {sp : Addr → Value → Option Addr → Sp} (F : Fun K x qual st f fd) (S : FnScope N ps (defScope st)) (len : ∀ a cls d vs H Q E, sp a cls d vs H Q E → vs.length = ps.length)
    (hbody : ∀ (cdv : Value) (A : Around) (outer : List Env) (s : Shared) (H : Hp) (vs : List V) (Q : VK) (E : XK) (p : Addr × Obj) (cls : Value) (d : Option Addr), Zc cls d p.2 → (∃ fv, p.2.data = .fields fv) → L2H.RoomH k (A.deeper (envOfC qual (defScope st) s.heap.objs.size f cdv)) → sp p.1 cls d vs H Q E →
      ∃ t, PSs (L2H.cxH CX0 P w K mg base N qual (defScope st) f cdv A outer s H E p) (defBody st) t ∧ t { nx := fun _ H' => Q .non H', rt := Q } (L2.start N vs) H) : FnP P w K mg base (k + 1) f fd ps sp := by
  obtain ⟨oc, od, kV, doc, pm, an, cdv, ct, osl, rfl, lk, hcd⟩ := F.ex
  exact fn_ofP lk hcd S len fun A outer s H vs Q E p cls d hz hf hr hsp => hbody cdv A outer s H vs Q E p cls d hz hf hr hsp
theorem kitAny_none {K : PySem.W.Frag} {t : Value} : ∀ us : List Value, (∀ u ∈ us, PySem.W.kitOne K t u = some false) → PySem.W.kitAny K t us = some false
  | [], _ => rfl
  | u :: us, h => kitAny_cons (h u (List.mem_cons_self ..)) (fun _ => kitAny_none us fun v hv => h v (List.mem_cons_of_mem _ hv)) (fun z => nomatch z)
end Ver
namespace Ver
open PySem PySem.Spec PyProof.Rows L2 Evl
/-- what == of own objects asks of their class -/
structure EqC (K : PySem.W.Frag) (C : Addr) : Prop where
  hc : PySem.W.findIn K (.ref C) "__class__" = some (some (.builtin "object.__class__"))
  hn : PySem.W.specialIn K (.builtin "object.__class__") "__get__" = some (some (.builtin "getset_descriptor.__get__"))
  ht : PySem.W.takesIn K (.builtin "object.__class__") = some true
  mo : PySem.W.mroIn K C (.type "object") = some true
  kk : PySem.W.kitOne K (.ref C) (.ref C) = some true
  ks : PySem.W.kitOne K (.type "str") (.ref C) = some false
theorem notFirst_str {K : PySem.W.Frag} {C : Addr} : PySem.W.notFirst K C (.type "str") = true := by
  have e : PySem.W.subIn K (.type "str") (.ref C) = some false := by
    show (fastBuiltinMro "str").map (fun l => l.contains (.ref C)) = some false
    rfl
  show ((.type "str" : Value) == .ref C || PySem.W.subIn K (.type "str") (.ref C) == some false) = true
  rw [e]
  exact Bool.or_true _
theorem notFirst_own {K : PySem.W.Frag} {C : Addr} : PySem.W.notFirst K C (.ref C) = true := by
  show ((.ref C : Value) == .ref C || _) = true
  rw [beq_self_eq_true]
  rfl
/-- x == y, x an object of the class at C with an own __eq__ -/
def rOwn (C : Addr) (sp : Sp) (E : XK) : R2 := fun x y H Q => ∃ a dx fs, x = .ref a ∧ H a = some (.ins C dx fs) ∧ ((∃ b dy gs, y = .ref b ∧ H b = some (.ins C dy gs)) ∨ ∃ s, y = .str s) ∧ sp [x, y] H (fun v H' => (∃ b, v = .bl b) ∧ Q v H') E
section
variable {X : Cx} {CX : CXT} {k : Nat} {f C : Addr} {fd : FuncData} {ps : List Str} {sp : Sp} {E : XK}
theorem op_own (M : Meth X.K C "__eq__" f) (F : FnOk X.prog X.w X.K X.mg X.base CX k f fd ps sp) (hr : Room k X.A) (hb : L2.Binds X.K fd ps []) (hx : Passes CX X E) : OpR X (compareOp .Eq) (rOwn C sp E) := by
  intro pins s σ H x y v u Q I rx ry h
  obtain ⟨a, dx, fs, rfl, ha, hy, hq⟩ := h
  obtain rfl : v = Value.ref a := rx
  obtain ⟨mA, J, _⟩ := ins_get I.hok ha
  obtain ⟨od, J, _⟩ := J.look
  obtain ⟨m, hF⟩ := I.fr
  show wpAny (model X.prog X.w) X.A (richCompare .Eq (.ref a) u) (EP X pins σ Q) X.xe s
  have go : wpAny (model X.prog X.w) X.A (call (.ref f) [.ref a, u]) (PySem.W.CmpBack (EP X pins σ Q)) X.xe s :=
    wpAny_mono (run_fn (us := [.ref a, u]) (vs := [.ref a, y]) (dvs := []) (ds := []) F hr hb .nil hx I (.cons rfl (.cons ry .nil)) hq) (fun r s' z => by
      obtain ⟨w, H', I', rw', ⟨b, hb'⟩, q⟩ := z
      subst hb'
      obtain rfl : r = Value.bool b := rw'
      exact ⟨.bl b, H', I', rfl, q⟩) fun _ _ z => z
  rcases hy with ⟨b, dy, gs, rfl, hb2⟩ | ⟨t, rfl⟩
  · obtain rfl : u = Value.ref b := ry
    obtain ⟨mB, J', _⟩ := ins_get I.hok hb2
    obtain ⟨od', J', _⟩ := J'.look
    exact PySem.W.cmp_K (op := .Eq) (tb := .ref C) hr.units0 hF I.ok.mod.kin J J'.type notFirst_own M.at_ M.fn go
  · obtain ⟨tk, rfl⟩ : ∃ tk, u = Value.str t tk := ry
    exact PySem.W.cmp_K (op := .Eq) (tb := .type "str") hr.units0 hF I.ok.mod.kin J (PySem.W.looks_typeIn I.kIn rfl) notFirst_str M.at_ M.fn go
/-! ### o.m(k = v, ..) -/
def tMethN (C : Addr) (m : Str) (n : Nat) (sp : Sp) (gV : List V → List V → List V) (E : XK) (ta : TE) (tk : TA) : TE := fun σ H Q => ta σ H fun x H1 => ∃ a dx fs, x = .ref a ∧ H1 a = some (.ins C dx fs) ∧ fs.lookup m = none ∧ tk σ H1 fun zs H2 => zs.length = n ∧ sp (gV [.ref a] zs) H2 Q E
theorem pe_methN {m : Str} {o : Expr} {apos pos : Pos} {kws : List Keyword} {ks : List Str} {ta : TE} {tk : TA} {g : List Value → List Value → List Value} {gV : List V → List V → List V} {pl : Sem Bool} (he : PE X o ta) (c : Cls X.K C) (hm : Meth X.K C m f) (F : FnOk X.prog X.w X.K X.mg X.base CX k f fd ps sp) (hr : Room k X.A)
    (hb : KBn X.K fd ps 1 ks g gV) (hx : Passes CX X E) (hkw : PK X kws tk) (hall : (backToKw pos (keywordEach kws X.env)).all (·.1.isSome) = true := by rfl) (hks : (backToKw pos (keywordEach kws X.env)).filterMap (·.1) = ks := by rfl)
    (hpl : ((backTo pos (starEach [] X.env)).any (·.1) || (backToKw pos (keywordEach kws X.env)).any (·.1.isNone)) = false := by rfl)
    (ht : eval (.Call (.Attribute o m apos) [] kws pos) X.env = (do
      let ov ← eval o X.env
      standAt apos.atName
      let (f, first) ← holding [ov] (getMethod ov m pl)
      callWith pos f first (backTo pos (starEach [] X.env)) (backToKw pos (keywordEach kws X.env))) := by rfl) :
    PE X (.Call (.Attribute o m apos) [] kws pos) (tMethN C m ks.length sp gV E ta tk) := by
  refine ⟨fun pins s σ H Q I h => ?_⟩
  refine PySem.W.methodCall_KW (pl := pl) (thn (he.run pins s σ H _ I h) fun u s1 ⟨x, H1, I1, rx, a, dx, fs, ex, ea, l, q⟩ => ?_) ht
  subst ex
  obtain rfl : u = Value.ref a := rx
  refine getmeth_ok I1 ea c hm l ?_
  refine PySem.W.callWith_KW0 (h₀ := X.base) I1.ok.mod.kin hm.kp hall ?_ hpl
  refine thn (hkw.run pos pins s1 σ H1 _ I1 q) fun ws s2 ⟨zs, H2, I2, rz, l2, q2⟩ => ⟨I2.kIn, ?_⟩
  rw [hks]
  exact run_fnN (us := [.ref a]) (vs := [.ref a]) F hr hb hx I2 (.cons rfl .nil) rz rfl l2 q2
end
/-! ### the rules of the sections -/
section
variable {K : PySem.W.Frag} {σ : L2.St} {H : Hp} {C : Addr} {ta tb : TE}
theorem ev_own {sp : Sp} {E : XK} {a dx : Addr} {fs : List (Str × V)} {y : V} {b : Bool} (ha : Ev ta σ H (.ref a)) (hb : Ev tb σ H y) (hi : H a = some (.ins C dx fs)) (hy : (∃ c dy gs, y = .ref c ∧ H c = some (.ins C dy gs)) ∨ ∃ s, y = .str s)
    (hs : ∀ H1, Ex H H1 → ∀ Q : VK, (∀ H2, Ex H1 H2 → Q (.bl b) H2) → sp [.ref a, y] H1 Q E) : Ev (tOp (rOwn C sp E) ta tb) σ H (.bl b) := fun H1 e Q q => ha H1 e _ fun H2 e2 => hb H2 (e.trans e2) _ fun H3 e3 =>
  ⟨a, dx, fs, rfl, ((e.trans e2).trans e3) _ _ hi, hy.imp (fun ⟨c, dy, gs, h1, h2⟩ => ⟨c, dy, gs, h1, ((e.trans e2).trans e3) _ _ h2⟩) (fun z => z), hs H3 ((e.trans e2).trans e3) _ fun H4 e4 => ⟨⟨b, rfl⟩, q H4 ((e2.trans e3).trans e4)⟩⟩
theorem rc_isiC {a dx : Addr} {fs : List (Str × V)} (G : EqC K C) (cl : Cls K C) (h : H a = some (.ins C dx fs)) : RC (rIsi K) [.ref a, .ref C] H (.bl true) := fun H1 e _ q =>
  ⟨.ref a, .ref C, _, _, true, rfl, .own C, .base (.ins (e _ _ h) cl G.hc G.hn G.ht G.mo), G.kk, q H1 (Ex.refl H1)⟩
theorem rc_isiCs {s : Str} (G : EqC K C) : RC (rIsi K) [.str s, .ref C] H (.bl false) := fun H1 _ _ q =>
  ⟨.str s, .ref C, _, _, false, rfl, .own C, .base (.str s), G.ks, q H1 (Ex.refl H1)⟩
/-- a method's call by name of its one parameter -/
theorem ev_methN {m : Str} {sp : Sp} {E : XK} {a dx : Addr} {fs : List (Str × V)} {gV : List V → List V → List V} {t : TA} {vs : List V} {v : V} {n : Nat} (ha : Ev ta σ H (.ref a)) (hi : H a = some (.ins C dx fs)) (hl : fs.lookup m = none) (ht : EvA t σ H vs) (hn : vs.length = n)
    (h : ∀ H1, Ex H H1 → ∀ Q : VK, (∀ H2, Ex H1 H2 → Q v H2) → sp (gV [.ref a] vs) H1 Q E) : Ev (tMethN C m n sp gV E ta t) σ H v := fun H1 e Q q => ha H1 e _ fun H2 e2 => ⟨a, dx, fs, rfl, (e.trans e2) _ _ hi, hl, ht H2 (e.trans e2) _ fun H3 e3 => ⟨hn, h H3 ((e.trans e2).trans e3) Q fun H4 e4 => q H4 ((e2.trans e3).trans e4)⟩⟩
end
/-! ### list(text) -/
def rListS : List V → Hp → VK → Prop := fun xs H Q => ∃ l : List Nat, xs = [tx l] ∧ l.length ≤ 1000 ∧ ∀ p, H p = none → Q (.ref p) (L2.upd H p (.lst (l.map fun c => tx [c])))
theorem vals_signs {l : List Nat} {its : List Value} (hl : its.length = l.length) (h : ∀ (j : Nat) (v : Value), its[j]? = some v → ∃ (c : Nat) (u : Tok), l[j]? = some c ∧ v = Value.str ⟨#[c]⟩ u) : Vals (l.map fun c => tx [c]) its := by
  induction l generalizing its with
  | nil =>
    match its, hl with
    | [], _ => exact .nil
  | cons c r ih =>
    match its, hl with
    | v :: ws, hl =>
      obtain ⟨d, u, h1, rfl⟩ := h 0 v rfl
      obtain rfl : c = d := Option.some.inj h1
      exact .cons ⟨u, rfl⟩ (ih (by simpa using hl) fun j v hv => h (j + 1) v hv)
theorem call_listS {X : Cx} (hc : X.calm = true) : CallR X (.type "list") rListS := by
  intro pins s σ H xs us Q I r h
  obtain ⟨l, rfl, hz, q⟩ := h
  obtain ⟨u, rfl, t, rfl⟩ := vals1 r
  have hsz : (SX.S l).cps.size = l.length := by
    show l.toArray.size = _
    simp
  refine call_list_str (I.ok.hd hc) (SX.S l) t (fun h' tk acc' c' hk hS' hacc => ?_) (by rw [hsz, sizeLine_eq]; omega)
  have hv : Vals (l.map fun c => tx [c]) acc'.toList := vals_signs (by rw [Array.length_toList, hacc.1, hsz]) fun j v hv => by
    obtain ⟨c, u, h1, h2⟩ := hacc.2 j v (by simpa using hv)
    refine ⟨c, u, ?_, h2⟩
    have h3 : l.toArray[j]? = some c := h1
    simpa using h3
  exact ⟨.ref s.heap.objs.size, _, I.laid (t' := tk) hk (Nat.le_refl _) (show ObjOk X.prog X.w _ h' _ (.lst (l.map fun c => tx [c])) from ⟨by rw [List.length_map, sizeLine_eq]; omega, acc'.toList, c', hv, by simpa using hS'⟩), rfl, q _ (I.hok.fresh (Nat.le_refl _))⟩
theorem el_listS {ta : TE} {σ : L2.St} {H : Hp} {l : List Nat} (h : Ev ta σ H (tx l)) (hz : l.length ≤ 1000) : EvL (tCB rListS (tCons ta tNil)) σ H (l.map fun c => tx [c]) := fun H1 e Q q => h H1 e _ fun H2 e2 => ⟨l, rfl, hz, fun p hp => q p _ (fresh_back e2 hp) (e2.trans (Ex.new hp)) upd_same⟩
/-! ### text[::-1], its length exactly -/
def tRevE (te : TE) : TE := fun σ H Q => te σ H fun x H1 => ∃ z : Str, x = .str z ∧ z.length ≤ sizeLine ∧ ∀ y : Str, y.cps.toList = ((List.range z.length).map fun k => z.cps.getD (z.length - 1 - k) 0) → Q (.str y) H1
theorem pe_revE {X : Cx} {e : Expr} {te : TE} {k : Nat} {p1 p2 p3 pos : Pos} (he : PE X e te) : PE X (.Subscript e (.Slice none none (some (.UnaryOp .USub (.Constant (.int 1) k p1) p2)) p3) pos) (tRevE te) := by
  refine ⟨fun pins s σ H Q I h => ?_⟩
  refine Subscript_ (thn (he.run pins s σ H _ I h) fun v s1 ⟨x, H1, I1, r1, q1⟩ => ?_)
  obtain ⟨z, ex, hz, q⟩ := q1
  subst ex
  obtain ⟨t, rfl⟩ := r1
  have hst : PO X (some (.UnaryOp .USub (.Constant (.int 1) k p1) p2)) (tPart (tUn (rU fun i => .int (-i)) (tC (.int 1)))) := po_some (pe_un un_neg pe_int)
  refine wpAny_Slice (thn (po_none.run pins s1 σ H1 (fun o H2 => o = none ∧ H2 = H1) I1 ⟨rfl, rfl⟩) fun vl s2 ⟨l, H2, I2, pl, el, e2⟩ => ?_)
  subst el e2
  refine thn (po_none.run pins s2 σ H2 (fun o H3 => o = none ∧ H3 = H2) I2 ⟨rfl, rfl⟩) fun vu s3 ⟨u, H3, I3, pu, eu, e3⟩ => ?_
  subst eu e3
  refine thn (hst.run pins s3 σ H3 (fun o H4 => o = some (-1) ∧ H4 = H3) I3 ⟨1, rfl, -1, rfl, rfl, rfl⟩) fun vs s4 ⟨o, H4, I4, ps, eo, e4⟩ => ?_
  subst eo e4
  have I5 : Inv X pins σ H4 { s4 with heap := s4.heap.push { cls := .type "slice", data := .fields #[vl, vu, vs] } } := I4.kept (t' := s4.toks) fun b ob q => Heap.get?_push_of_some _ q
  obtain ⟨l, rfl, hl⟩ := IsPart.raw pl
  obtain ⟨u, rfl, hu⟩ := IsPart.raw pu
  obtain ⟨w, rfl, hw⟩ := IsPart.raw ps
  cases l with
  | some l => cases hl
  | none =>
  cases u with
  | some u => cases hu
  | none =>
  cases w with
  | none => cases hw
  | some w =>
  obtain ⟨w1, w2⟩ := w
  have ew : w1 = -1 := by
    have : some w1 = some (-1 : Int) := hw
    exact Option.some.inj this
  subst ew
  refine tail_any (ops := [.ref s4.heap.objs.size, .str z t]) (typeIs_str _ _ _) F.slot_str_getitem.lookup ?_ (by with_unfolding_all rfl)
  refine wpAny_getItem_str_slice (l := none) (u := none) (st := some (-1, w2)) ⟨_, Heap.get?_push_size _ rfl, rfl, rfl⟩ rfl ?_
  have hc : ¬ ((((some ((-1 : Int), w2)).map (·.1)).getD 1 == 1 && (slicePicked z none none (some (-1, w2))).length == z.length) = true) := by
    have : (((some ((-1 : Int), w2)).map (·.1)).getD 1 == 1) = false := rfl
    rw [this]
    simp
  have hl := step_rev_list z w2
  have hn := step_rev_len z w2
  unfold Txt.sliceBy at hl hn
  rw [if_neg hc] at hl hn
  unfold sliceMade
  rw [if_neg hc]
  refine ⟨?_, .str _, H4, I5.tok _, ⟨_, rfl⟩, q _ hl⟩
  show (⟨((slicePicked z none none (some (-1, w2))).filterMap (z.cps[·]?)).toArray⟩ : Str).length ≤ sizeLine
  rw [hn]
  exact hz
theorem rev_list (l : List Nat) : ((List.range l.length).map fun k => l.getD (l.length - 1 - k) 0) = l.reverse := by
  refine List.ext_getElem? fun i => ?_
  by_cases c : i < l.length
  · rw [List.getElem?_map, List.getElem?_range c, List.getElem?_reverse c]
    show some (l.getD (l.length - 1 - i) 0) = _
    rw [List.getD_eq_getElem?_getD, List.getElem?_eq_getElem (show l.length - 1 - i < l.length by omega)]
    rfl
  · rw [List.getElem?_eq_none (by rw [List.length_map, List.length_range]; omega), List.getElem?_eq_none (by rw [List.length_reverse]; omega)]
theorem ev_revE {te : TE} {σ : L2.St} {H : Hp} {l : List Nat} (h : Ev te σ H (tx l)) (hz : l.length ≤ 100000) : Ev (tRevE te) σ H (tx l.reverse) := fun H1 e Q q => h H1 e _ fun H2 e2 => ⟨SX.S l, rfl, by rw [SX.S_len, sizeLine_eq]; omega, fun y hy => by
  have e3 : y.cps.toList = l.reverse := by
    rw [hy, ← rev_list l, SX.S_len]
    refine List.map_congr_left fun k _ => ?_
    show l.toArray.getD _ 0 = _
    simp [Array.getD_eq_getD_getElem?, List.getD_eq_getElem?_getD]
  have e4 : (.str y : V) = tx l.reverse := by
    rw [← e3]
  rw [e4]
  exact q H2 e2⟩
end Ver
namespace Ver
open PySem PySem.Spec PyProof.Rows L2 Evl
section
variable {K : PySem.W.Frag} {σ : L2.St} {H : Hp} {ta tb tc te tl : TE} {tz : TS} {D : Ends}
/-- a list made over a text -/
theorem el_lcS {x : List Nat} {j : Nat} {vs : List Nat} (v : Nat → V) (h : Ev tl σ H (tx x)) (hz : x.length ≤ 40000) (hw : ∀ a, wipe ((wipe σ vs).set j (some a)) vs = wipe σ vs)
    (he : ∀ (i c : Nat) H1, Ex H H1 → x[i]? = some c → Ev te ((wipe σ vs).set j (some (tx [c]))) H1 (v c)) :
    EvL (tLc (iStr tl) (gName j) tYes te vs) σ H (x.map v) := fun H0 e Q q => h H0 e _ fun H1 e1 => ⟨SX.S x, rfl, fun Dl hD => by
  have hn : (SX.S x).cps.size = x.length := by
    show x.toArray.size = _
    simp
  let g : Nat → V := fun i => v (x.getD i 0)
  refine lc_it (walk_str (z := SX.S x)) (Cw H1 (fun _ => true) g Dl) ⟨hD, Ex.new hD, upd_same⟩ (fun _ _ _ _ => trivial) (fun i z H' H2 hi p yp => ?_) (fun H' p => ?_)
  · obtain ⟨rfl, c, hc, rfl⟩ := yp
    have hc2 : x[i]? = some c := by
      have : (SX.S x).cps.toList[i]? = some c := by rw [Array.getElem?_toList]; exact hc
      exact this
    have hlt := (List.getElem?_eq_some_iff.mp hc2).1
    have eg : g i = v c := by
      show v (x.getD i 0) = v c
      rw [List.getD_eq_getElem?_getD, hc2]
      rfl
    refine ⟨hw _, cw_turn p (by omega) et_yes fun _ => ?_⟩
    rw [eg]
    exact he i c H1 (e.trans e1) hc2
  · rw [hn] at p
    have p3 := p.2.2
    rw [given_all] at p3
    have ee : (List.range x.length).map g = x.map v := by
      refine List.ext_getElem (by simp) fun i h1 h2 => ?_
      have hi : i < x.length := by simpa using h2
      rw [List.getElem_map, List.getElem_map, List.getElem_range]
      show v (x.getD i 0) = _
      rw [List.getD_eq_getElem?_getD, List.getElem?_eq_getElem hi]
      rfl
    rw [ee] at p3
    exact q Dl H' (fresh_back e1 p.1) (e1.trans p.2.1) p3⟩
/-- a call whose second argument of three is a new list -/
theorem ev_call3L {sp : Sp} {E : XK} {x y z : V} {xs dvs : List V} (h : Ev ta σ H x) (hl : EvL tl σ H xs) (h3 : ∀ H1, Ex H H1 → Ev tb σ H1 y) (hs : ∀ p H1, Ex H H1 → H1 p = some (.lst xs) → SpV sp ([x, .ref p, y] ++ dvs) H1 z) : Ev (tCall sp dvs E (tCons ta (tCons tl (tCons tb tNil)))) σ H z := fun H1 e Q q =>
  h H1 e _ fun H2 e2 => hl H2 (e.trans e2) _ fun p H3 hp e3 g3 => h3 H3 ((e.trans e2).trans e3) H3 (Ex.refl H3) _ fun H4 e4 => hs p H4 (((e.trans e2).trans e3).trans e4) (e4 _ _ g3) H4 (Ex.refl H4) Q (fun H5 e5 => q H5 (((e2.trans e3).trans e4).trans e5)) E
/-- len of a new text, parts of texts -/
theorem over_cut {al l : List Nat} {lo hi : Option Int} (h : ∀ c ∈ l, c ∈ al) : ∀ c ∈ cutL l lo hi, c ∈ al := fun c hc => h c (cutL_sub c hc)
theorem over_app {al a b : List Nat} (h1 : ∀ c ∈ a, c ∈ al) (h2 : ∀ c ∈ b, c ∈ al) : ∀ c ∈ a ++ b, c ∈ al := fun c hc => (List.mem_append.mp hc).elim (h1 c) (h2 c)
theorem over_rep {al l : List Nat} {n : Nat} (h : ∀ c ∈ l, c ∈ al) : ∀ c ∈ (List.replicate n l).flatten, c ∈ al := fun c hc => by
  obtain ⟨m, hm, hc2⟩ := List.mem_flatten.mp hc
  rw [List.eq_of_mem_replicate hm] at hc2
  exact h c hc2
theorem rep_len {l : List Nat} {n : Nat} : (List.replicate n l).flatten.length = n * l.length := by
  induction n with
  | zero => simp
  | succ n ih => rw [List.replicate_succ, List.flatten_cons, List.length_append, ih, Nat.add_mul, Nat.one_mul, Nat.add_comm]
/-- a text over al, no longer than n -/
structure Word (al : List Nat) (n : Nat) (v : List Nat) : Prop where
  over : ∀ c ∈ v, c ∈ al
  len : v.length ≤ n
theorem Word.cut {al v : List Nat} {n m : Nat} (h : ∀ c ∈ v, c ∈ al) (hm : m ≤ n) : Word al n (cutL v none (some (m : Int))) := ⟨over_cut h, by rw [cutL_to, List.length_take]; omega⟩
theorem nodup_sub : ∀ (a b : List Nat), a.Nodup → (∀ x ∈ a, x ∈ b) → a.length ≤ b.length
  | [], b, _, _ => Nat.zero_le _
  | x :: r, b, nd, h => by
    have hx := h x (List.mem_cons_self ..)
    have ih := nodup_sub r (b.erase x) (List.nodup_cons.mp nd).2 fun y hy => (List.mem_erase_of_ne (fun (e : y = x) => (List.nodup_cons.mp nd).1 (e ▸ hy))).mpr (h y (List.mem_cons_of_mem _ hy))
    have e := List.length_erase_of_mem hx
    have hp : 0 < b.length := List.length_pos_of_mem hx
    show r.length + 1 ≤ _
    omega
end
end Ver
namespace Ver
open PySem PySem.Spec PyProof.Rows L2 Evl
/-! ### pairs as data -/
def pd (r : Nat × Nat) : PyData := .tuple [.int (r.1 : Int), .str (SX.S [r.2])]
theorem pd_shaped (r : Nat × Nat) (h : r.2 < 1114112) : SeqAt.shaped (pd r) = true := by
  show (PyData.canLay0 _ && decide (PyData.depth _ ≤ 64)) = true
  have hs : PyData.strOk (SX.S [r.2]) = true := by
    unfold PyData.strOk
    simpa using h
  simp [pd, PyData.canLay0, PyData.canLayAll0, PyData.depth, PyData.depthAll, hs]
theorem pd_eqv (a b : Nat × Nat) : PyData.eqv (pd a) (pd b) = decide (a = b) := by
  obtain ⟨a1, a2⟩ := a
  obtain ⟨b1, b2⟩ := b
  show ((((a1 : Int) == (b1 : Int)) && ((SX.S [a2] == SX.S [b2]) && true)) = _)
  rw [Bool.and_true, SX.S_beq_eq, Bool.eq_iff_iff, Bool.and_eq_true, beq_iff_eq, decide_eq_true_eq, decide_eq_true_eq]
  constructor
  · rintro ⟨h1, h2⟩
    have := (List.cons.inj h2).1
    exact Prod.ext (by show a1 = b1; omega) this
  · intro h
    cases h
    exact ⟨rfl, rfl⟩
theorem pd_alike (a b : Nat × Nat) : PySem.W.alike (pd a) (pd b) = true := by
  simp [pd, PySem.W.alike, PySem.W.alikeAll]
theorem pd_lt (a b : Nat × Nat) : PySem.W.dataLt (pd a) (pd b) = rltb a b := by
  obtain ⟨a1, a2⟩ := a
  obtain ⟨b1, b2⟩ := b
  show PyProof.Rows.lexLt itemOrd (PySem.W.keyToksAll [.int (a1 : Int), .str (SX.S [a2])]) (PySem.W.keyToksAll [.int (b1 : Int), .str (SX.S [b2])]) = _
  unfold rltb
  by_cases h : a1 = b1
  · subst h
    rw [PySem.W.dataLt_all_yes (by simp [PySem.W.alike]) (by simp [PyData.eqv])]
    by_cases g : a2 = b2
    · subst g
      rw [PySem.W.dataLt_all_yes (by simp [PySem.W.alike]) (by show (SX.S [a2] == SX.S [a2]) = true; simp)]
      simp [PySem.W.keyToksAll, PyProof.Rows.lexLt, itemLt]
    · rw [PySem.W.dataLt_all_no (by simp [PySem.W.alike]) (by show (SX.S [a2] == SX.S [b2]) = false; rw [SX.S_beq_eq]; exact decide_eq_false fun q => g (List.cons.inj q).1), PySem.W.dataLt_str]
      refine decide_eq_decide.mpr ?_
      show ([a2] : List Nat) < [b2] ↔ _
      constructor
      · intro h
        cases h with
        | rel h => exact .inr ⟨rfl, h⟩
        | cons h => cases h
      · rintro (h | h)
        · exact absurd h (Nat.lt_irrefl _)
        · exact List.Lex.rel h.2
  · rw [PySem.W.dataLt_all_no (by simp [PySem.W.alike]) (by show ((a1 : Int) == (b1 : Int)) = false; simp; omega), PySem.W.dataLt_int]
    refine decide_eq_decide.mpr ?_
    show (a1 : Int) < (b1 : Int) ↔ (a1 < b1 ∨ a1 = b1 ∧ a2 < b2)
    omega
end Ver
namespace Ver
open PySem PySem.Spec PyProof.Rows L2 Evl
/-! ### == and != of like data -/
section
variable {K : PySem.W.Frag} {H : Hp}
theorem rv_isV {r : R2} {x y z z' : V} (h : RV r x y H z) (e : z = z') : RV r x y H z' := by
  rw [← e]
  exact h
theorem eqv_self {d : PyData} (h : SeqAt.shaped d = true) : PyData.eqv d d = true := SeqAt.eqv_refl _ (SeqAt.canLay_of_shaped h)
theorem rv_neSame {x y : V} {d : PyData} (h : SeqAt.shaped d = true) (h1 : ∀ H1, Ex H H1 → Dp K H1 x d) (h2 : ∀ H1, Ex H H1 → Dp K H1 y d) : RV (rNeD K) x y H (.bl false) := fun H1 e Q q =>
  ⟨d, d, h1 H1 e, h2 H1 e, h, h, by rw [eqv_self h]; exact q H1 (Ex.refl H1)⟩
theorem rv_eqSame {x y : V} {d : PyData} (h : SeqAt.shaped d = true) (h1 : ∀ H1, Ex H H1 → Dp K H1 x d) (h2 : ∀ H1, Ex H H1 → Dp K H1 y d) : RV (rEqD K) x y H (.bl true) := fun H1 e Q q =>
  ⟨d, d, h1 H1 e, h2 H1 e, h, h, by rw [eqv_self h]; exact q H1 (Ex.refl H1)⟩
theorem dp_txs : ∀ ss : List (List Nat), DpAll K H (ss.map tx) (ss.map fun s => PyData.str (SX.S s))
  | [] => .nil
  | s :: ss => .cons (.str _) (dp_txs ss)
theorem dp_row {r : Addr} {q : Nat × Nat} (h : H r = some (.tup [.int (q.1 : Int), tx [q.2]])) : Dp K H (.ref r) (pd q) := .tup (st_of h) (.cons (.int _) (.cons (.str _) .nil))
theorem dp_rows : ∀ (xs : List V) (rs : Rw), RowsAt H xs rs → DpAll K H xs (rs.map pd)
  | [], [], _ => .nil
  | [], _ :: _, h => by
    have := h.len
    cases this
  | _ :: _, [], h => by
    have := h.len
    cases this
  | x :: xs, q :: rs, h => by
    obtain ⟨r, e1, e2⟩ := h.row 0 q.1 q.2 rfl
    have : x = V.ref r := Option.some.inj e1
    subst this
    refine .cons (dp_row e2) (dp_rows xs rs ⟨by have := h.len; simpa using this, fun i p c e => ?_⟩)
    exact h.row (i + 1) p c e
theorem lay_all : ∀ ds : List PyData, (∀ d ∈ ds, PyData.canLay0 d = true) → PyData.canLayAll0 ds = true
  | [], _ => by simp [PyData.canLayAll0]
  | d :: ds, h => by
    rw [PyData.canLayAll0, h d (List.mem_cons_self ..), lay_all ds fun x hx => h x (List.mem_cons_of_mem _ hx)]
    rfl
theorem deep_all {n : Nat} : ∀ ds : List PyData, (∀ d ∈ ds, PyData.depth d ≤ n) → PyData.depthAll ds ≤ n
  | [], _ => by simp [PyData.depthAll]
  | d :: ds, h => by
    have h1 := h d (List.mem_cons_self ..)
    have h2 := deep_all ds fun x hx => h x (List.mem_cons_of_mem _ hx)
    rw [PyData.depthAll]
    omega
theorem shaped_tup {ds : List PyData} {n : Nat} (h : ∀ d ∈ ds, PyData.canLay0 d = true ∧ PyData.depth d ≤ n) (hn : n ≤ 60) : SeqAt.shaped (.tuple ds) = true := by
  show (PyData.canLay0 _ && decide (PyData.depth _ ≤ 64)) = true
  have h1 := lay_all ds fun d hd => (h d hd).1
  have h2 := deep_all (n := n) ds fun d hd => (h d hd).2
  rw [Bool.and_eq_true, decide_eq_true_eq]
  exact ⟨by rw [PyData.canLay0]; exact h1, by rw [PyData.depth]; omega⟩
theorem shaped_lst {ds : List PyData} {n : Nat} (h : ∀ d ∈ ds, PyData.canLay0 d = true ∧ PyData.depth d ≤ n) (hn : n ≤ 60) : SeqAt.shaped (.list ds) = true := by
  show (PyData.canLay0 _ && decide (PyData.depth _ ≤ 64)) = true
  have h1 := lay_all ds fun d hd => (h d hd).1
  have h2 := deep_all (n := n) ds fun d hd => (h d hd).2
  rw [Bool.and_eq_true, decide_eq_true_eq]
  exact ⟨by rw [PyData.canLay0]; exact h1, by rw [PyData.depth]; omega⟩
theorem lay_tx {s : List Nat} (h : ∀ c ∈ s, c < 1114112) : PyData.canLay0 (.str (SX.S s)) = true ∧ PyData.depth (.str (SX.S s)) ≤ 0 := by
  have hs : PyData.strOk (SX.S s) = true := by
    unfold PyData.strOk
    show s.toArray.all _ = true
    simpa using h
  exact ⟨by simp [PyData.canLay0, hs], by simp [PyData.depth]⟩
theorem lay_pd {r : Nat × Nat} (h : r.2 < 1114112) : PyData.canLay0 (pd r) = true ∧ PyData.depth (pd r) ≤ 1 := by
  have hs := (lay_tx (s := [r.2]) fun c hc => by rw [List.mem_singleton.mp hc]; exact h).1
  rw [PyData.canLay0] at hs
  constructor
  · simp [pd, PyData.canLay0, PyData.canLayAll0, hs]
  · simp [pd, PyData.depth, PyData.depthAll]
theorem Alf.uni {al : List Nat} (A : Alf al) {c : Nat} (h : c ∈ al) : c < 1114112 := by
  have := A.let' c h
  omega
/-- two tuples of the same rows -/
theorem rv_neRows {p q : Addr} {xs ys : List V} {rs : Rw} {al : List Nat} (A : Alf al) (hr : ∀ r ∈ rs, r.2 ∈ al) (h1 : H p = some (.tup xs)) (h2 : RowsAt H xs rs) (h3 : H q = some (.tup ys)) (h4 : RowsAt H ys rs) : RV (rNeD K) (.ref p) (.ref q) H (.bl false) :=
  rv_neSame (d := .tuple (rs.map pd)) (shaped_tup (n := 1) (fun d hd => by
    obtain ⟨r, hr', rfl⟩ := List.mem_map.mp hd
    exact lay_pd (A.uni (hr r hr'))) (by decide)) (fun H1 e => .tup (st_of (e _ _ h1)) (dp_rows _ _ (h2.mono e))) fun H1 e => .tup (st_of (e _ _ h3)) (dp_rows _ _ (h4.mono e))
/-- two tuples of the same texts -/
theorem rv_neTxs {p q : Addr} {ss : List (List Nat)} {al : List Nat} (A : Alf al) (hr : ∀ s ∈ ss, ∀ c ∈ s, c ∈ al) (h1 : H p = some (.tup (ss.map tx))) (h2 : H q = some (.tup (ss.map tx))) : RV (rNeD K) (.ref p) (.ref q) H (.bl false) :=
  rv_neSame (d := .tuple (ss.map fun s => PyData.str (SX.S s))) (shaped_tup (n := 0) (fun d hd => by
    obtain ⟨s, hs, rfl⟩ := List.mem_map.mp hd
    exact lay_tx fun c hc => A.uni (hr s hs c hc)) (by decide)) (fun H1 e => .tup (st_of (e _ _ h1)) (dp_txs _)) fun H1 e => .tup (st_of (e _ _ h2)) (dp_txs _)
/-- two lists of the same ints -/
theorem rv_eqInts {p q : Addr} {ns : List Int} (h1 : SqL K H p (ns.map V.int)) (h2 : SqL K H q (ns.map V.int)) : RV (rEqD K) (.ref p) (.ref q) H (.bl true) :=
  rv_eqSame (d := .list (ns.map PyData.int)) (shaped_list_of_ints ns) (fun H1 e => .lst (ex_l e h1) (dp_ints ns)) fun H1 e => .lst (ex_l e h2) (dp_ints ns)
end
end Ver
namespace Ver
open PySem PySem.Spec PyProof.Rows L2 Evl
/-! ### promises of defs that ask what is under way (repr): kept where no guard is under way -/
structure FnG (P : Program) (w : World) (K : PySem.W.Frag) (mg : Str → Option Value) (bs : Heap) (C : CXT) (k : Nat) (f : Addr)
    (fd : FuncData) (ps : List Str) (sp : Sp) : Prop where
  lens : ∀ vs H Q E, sp vs H Q E → vs.length = ps.length
  runs : ∀ (A : Around) (ou : List Env) (s : Shared) (H : Hp) (ar : Args) (us : List Value) (vs : List V) (Q : VK) (E : XK),
    A.guards = some [] → Room k A → Env0 P w K mg bs A ou s H → BindsTo s fd ar (ps.zip us) → Vals vs us → sp vs H Q E →
      codeAny (model P w) A (.call (.ref f) ar) (CR C ou P w H s Q E) s
section
variable {P : Program} {w : World} {K : PySem.W.Frag} {mg : Str → Option Value} {bs : Heap} {C : CXT} {k : Nat} {f : Addr} {fd : FuncData} {ps : List Str} {sp : Sp}
theorem FnG.of (F : FnOk P w K mg bs C k f fd ps sp) : FnG P w K mg bs C k f fd ps sp :=
  ⟨F.len, fun A ou s H ar us vs Q E _ => F.run A ou s H ar us vs Q E⟩
theorem FnG.more {j : Nat} (F : FnG P w K mg bs C j f fd ps sp) (h : j ≤ k) : FnG P w K mg bs C k f fd ps sp :=
  ⟨F.lens, fun A ou s H ar us vs Q E g r => F.runs A ou s H ar us vs Q E g (r.mono h)⟩
/-- a def by its body, no guard under way -/
theorem fng_of {nm ql : Str} {pa : Arguments} {bd : List Stmt} {sc : Scope} {dV kV dc pm cdv ct oc : Value} {an od : Option Addr} {sl : Array (Option Value)} {N : List Str}
    (at_ : K.lookup f = some ⟨oc, od, .func (PySem.W.fnOf nm ql pa bd sc dV kV dc pm an cdv ct), sl⟩) (co : PySem.W.codeIn K cdv ql = true) (S : FnScope N ps sc)
    (ln : ∀ vs H Q E, sp vs H Q E → vs.length = ps.length)
    (body : ∀ (A : Around) (ou : List Env) (s : Shared) (H : Hp) (vs : List V) (Q : VK) (E : XK), A.guards = some [] →
      Room k (A.deeper (envOfC ql sc s.heap.objs.size f cdv)) → sp vs H Q E →
      ∃ t, PSs (cxOf C P w K mg bs N ql sc f cdv A ou s H E) bd t ∧ t { nx := fun _ H' => Q .non H', rt := Q } (L2.start N vs) H) :
    FnG P w K mg bs C (k + 1) f (PySem.W.fnOf nm ql pa bd sc dV kV dc pm an cdv ct) ps sp := by
  refine ⟨ln, fun A ou s H ar us vs Q E g room env binds vals said => ?_⟩
  have inK : K.In s.heap := env.mod.kin.keeps fun b o e => (env.bs b o e).1
  have noLim : s.heap.NoLimit := env.mod.nolimit.keeps fun b o e => (env.bs b o e).1
  have places : ∀ y ∈ ps.zip us, sc.names.lookup y.1 = some .local ∨
      (sc.names.lookup y.1 = some .cell ∧ ((cellsFrom (s.heap.objs.size + 1) sc.names []).lookup y.1).isSome = true) := by
    rintro ⟨n, v⟩ hy
    rcases S.par n (List.of_mem_zip hy).1 with q | q
    · exact Or.inl q
    · exact Or.inr ⟨q, PySem.W.cellsFrom_some _ _ _ (.inl q)⟩
  refine codeAny_call_function room.depth (inK _ _ at_) rfl S.co S.gen rfl (PySem.W.codeRec_of inK co) (binds _ _ _ _ ?_)
  refine wpAny_newFunctionEnv_cells S.kind places ?_
  rintro en rfl s1 x
  refine ⟨noLim.keeps x.toInCall.keep, codeAny_func ?_⟩
  obtain ⟨t, ht, hq⟩ := body A ou s H vs Q E g (room.deeper _) said
  have inv := inv_start (CX := C) (E := E) S room.hd env (ln _ _ _ _ said) vals x
  refine wpAny_mono (ht.run [] s1 (L2.start N vs) H _ inv hq) ?_ (fun e s' hs => hs)
  intro fl s' hs
  cases fl with
  | brk =>
    obtain ⟨_, _, _, z⟩ := hs
    exact z.elim
  | cont =>
    obtain ⟨_, _, _, z⟩ := hs
    exact z.elim
  | next =>
    obtain ⟨σ', H', J, q⟩ := hs
    exact ⟨V.non, H', J.os, J.bare, J.base, J.hok, rfl, q⟩
  | ret u =>
    obtain ⟨y, σ9, H9, J, rv, z⟩ := hs
    exact ⟨y, H9, J.os, J.bare, J.base, J.hok, rv, z⟩
/-- as ok of the layer, no guard under way -/
theorem okG {x ql : Str} {st : Stmt} {N : List Str} (F : Fun K x ql st f fd) (S : FnScope N ps (defScope st)) (ln : ∀ vs H Q E, sp vs H Q E → vs.length = ps.length)
    (body : ∀ (cdv : Value) (A : Around) (ou : List Env) (s : Shared) (H : Hp) (vs : List V) (Q : VK) (E : XK), A.guards = some [] →
      Room k (A.deeper (envOfC ql (defScope st) s.heap.objs.size f cdv)) → sp vs H Q E →
      ∃ t, PSs (cxOf CX0 P w K mg bs N ql (defScope st) f cdv A ou s H E).nox (defBody st) t ∧ t { nx := fun _ H' => Q .non H', rt := Q } (L2.start N vs) H) :
    FnG P w K mg bs CX0 (k + 1) f fd ps sp := by
  obtain ⟨_, _, _, _, _, _, cdv, _, _, rfl, lk, hc⟩ := F.ex
  refine fng_of lk hc S ln fun A ou s H vs Q E g room said => ?_
  obtain ⟨t, ht, q⟩ := body cdv A ou s H vs Q E g room said
  exact ⟨t, ht.nox, q⟩
end
def HasG (P : Program) (w : World) (K : PySem.W.Frag) (mg : Str → Option Value) (bs : Heap) (x : Str) (st : Stmt) (ps : List Str) (k : Nat) (sp : Sp) : Prop :=
  ∃ f fd, Fun K x x st f fd ∧ FnG P w K mg bs CX0 k f fd ps sp ∧ Binds K fd ps [] ∧ mg x = some (.ref f) ∧ PySem.W.keepIn K (.ref f) = true
section
variable {X : Cx} {C : CXT} {k : Nat} {f : Addr} {fd : FuncData} {ps : List Str} {sp : Sp} {dvs : List V} {ds : List Value} {E : XK} {x : Str} {p pos : Pos} {e : Expr} {es : List Expr} {t : TA}
/-- a call of such a def, out of a body with no guard under way -/
theorem pe_callG (g : X.A.guards = some []) (F : FnG X.prog X.w X.K X.mg X.base C k f fd ps sp) (room : Room k X.A) (hg : Gl X x) (hm : X.mg x = some (.ref f)) (hk : PySem.W.keepIn X.K (.ref f) = true)
    (hb : Binds X.K fd ps ds) (hd : Vals dvs ds) (hx : Passes C X E) (ha : PA X (e :: es) t) (nd : (x == ("__debug__" : Str)) = false := by decide)
    (h1 : starEach (e :: es) X.env = (false, eval e X.env) :: starEach es X.env := by rfl) (h2 : (backTo pos (starEach es X.env)).any (·.1) = false := by rfl) :
    PE X (.Call (.Name x p) (e :: es) [] pos) (tCall sp dvs E t) := ⟨fun pins s σ H Q I h => by
  refine wpAny_Call_Name_kw (ld_glob I hg hm ?_ nd)
  refine PySem.W.callWith_K (h₀ := X.base) I.ok.mod.kin hk (thn (ha.run pos pins s σ H _ I h) ?_) h1 h2
  rintro us s1 ⟨vs, H1, I1, r, q⟩
  refine ⟨I1.kIn, ?_⟩
  have r2 : Vals (vs ++ dvs) (us ++ ds) := r.append hd
  have l2 : (us ++ ds).length = ps.length := r2.length.symm.trans (F.lens _ _ _ _ q)
  refine wpAny_call (codeAny_mono (F.runs X.A X.stack s1 H1 ⟨us, []⟩ (us ++ ds) (vs ++ dvs) Q E g room I1.env0 (hb s1 us I1.kIn l2) r2 q) ?_)
  intro r s' hq
  match r, hq with
  | .error e, hq => exact hx pins σ H1 s1 e s' I1 hq
  | .ok (.ret u), hq => exact I1.after hq⟩
/-! ### repr of data -/
theorem call_reprD (g : X.A.guards = some []) (hu : X.A.units + 64 < cLine) : CallR X (.builtin "repr") (fun xs H Q => ∃ (a : Addr) (d : PyData), xs = [.ref a] ∧ Dp X.K H (.ref a) d ∧ d.showable = true ∧ d.hasDict = false ∧ d.depth ≤ 20 ∧ d.shown.length ≤ sizeLine ∧ Q (.str d.shown) H) := by
  intro pn s σ H xs us Q I r h
  obtain ⟨a, d, rfl, hd, hs, hn, hp, hz, q⟩ := h
  match us, r with
  | [u], .cons r1 .nil =>
    cases r1
    obtain ⟨as, rd⟩ := Dp.reads I d _ _ hd rfl
    refine repr_of_reads' rd hs (fun z => by rw [hn] at z; cases z) g (by omega) (fun _ _ z => z) (fun h' u tk keep => ?_) hz
    exact ⟨.str d.shown, H, I.kept keep, ⟨u, rfl⟩, q⟩
end
end Ver
namespace Ver
open PySem PySem.Spec PyProof.Rows L2 Evl
theorem hu65 {A : Around} {k : Nat} (hr : Room k A) : A.units + 65 < cLine := by
  have := hr.un
  omega
/-- n.f, n the error at a, of a class that the state tells -/
def tXpS (K : PySem.W.Frag) (a : Addr) (cls : Value) (d : Option Addr) (f : Str) (te : TE) : TE := fun σ H Q => te σ H fun x H1 => x = .ref a ∧ ∃ (C dd : Addr) (fs : List (Str × V)) (v : V), cls = .ref C ∧ XfC K C ∧ PySem.W.findIn K (.ref C) f = some none ∧ d = some dd ∧ H1 dd = some (.xd fs) ∧ fs.lookup f = some v ∧ Q v H1
theorem pe_xpS {X : Cx} {K : PySem.W.Frag} {p : Addr × Obj} {a : Addr} {cls : Value} {d : Option Addr} {e : Expr} {te : TE} {pos : Pos} {n : Str} (ek : X.K = K) (ea : p.1 = a) (hp : p ∈ X.pn)
    (hz : Zc cls d p.2) (hf : ∃ vs, p.2.data = .fields vs) (he : PE X e te) (hb : attributeBase e n X.env (eval e X.env) = eval e X.env := by rfl) : PE X (.Attribute e n pos) (tXpS K a cls d n te) := by
  subst ea
  subst ek
  refine ⟨fun pins s σ H Q I h => ?_⟩
  refine attr_of hb (thn (he.run pins s σ H _ I h) fun u s1 hh => ?_)
  obtain ⟨x, H1, I1, rx, ex, C, dd, fs, v, ec, T, hno, ed, ea, l, q⟩ := hh
  subst ex
  obtain rfl : u = Value.ref p.1 := rx
  subst ec
  subst ed
  obtain ⟨ha, _⟩ := I1.pin p (List.mem_append_left _ hp)
  obtain ⟨vs, hd⟩ := hf
  have hx : ObjOk X.prog X.w H1 s1.heap dd (.xd fs) := I1.hok dd _ ea
  obtain ⟨mA, hns, hr⟩ := hx
  obtain ⟨od, ho, hl⟩ := lookIn_ns hns
  obtain ⟨u, hu, ru⟩ := RelO.some_of (v := v) (o := mA n) (by rw [← l]; exact hr n)
  have J : PySem.W.InstAt s1.heap p.1 p.2 C (some od) := ⟨ha, hz.1, by unfold PySem.W.notCls; rw [hd] <;> rfl, by rw [hz.2]; exact ho⟩
  exact HandSPX.exc_get I1.kIn J T.ga T.gg T.exC (PySem.W.findObj_own T.hdC hno rfl (by rw [hl, hu])) (handed_of ru) ⟨v, H1, I1.tok _, ru, q⟩
section
variable {K : PySem.W.Frag} {σ : L2.St} {H : Hp} {te : TE}
theorem ev_xpS {a C dd : Addr} {cls : Value} {d : Option Addr} {fs : List (Str × V)} {f : Str} {v : V} (h : Ev te σ H (.ref a)) (hc : cls = .ref C) (x : XfC K C) (hn : PySem.W.findIn K (.ref C) f = some none) (hd : d = some dd) (hx : H dd = some (.xd fs)) (hl : fs.lookup f = some v) : Ev (tXpS K a cls d f te) σ H v := fun H1 e Q q =>
  h H1 e _ fun H2 e2 => ⟨rfl, C, dd, fs, v, hc, x, hn, hd, (e.trans e2) _ _ hx, hl, q H2 e2⟩
end
theorem call_isiK {X : Cx} {K : PySem.W.Frag} (ek : X.K = K) : CallR X (.builtin "isinstance") (rIsi K) := by
  subst ek
  exact call_isi
theorem call_listK {X : Cx} {K : PySem.W.Frag} (ek : X.K = K) : CallR X (.type "list") (fun xs H Q => ∃ p ys, xs = [.ref p] ∧ (SqL K H p ys ∨ SqT K H p ys) ∧ ∀ l, H l = none → Q (.ref l) (upd H l (.lst ys))) := by
  subst ek
  exact call_list_of
/-! ### repr of a text -/
theorem call_reprS {X : Cx} (g : X.A.guards = some []) (hu : X.A.units + 64 < cLine) : CallR X (.builtin "repr") (fun xs H Q => ∃ z : Str, xs = [.str z] ∧ (reprText z).length ≤ sizeLine ∧ Q (.str (reprText z)) H) := by
  intro pn s σ H xs us Q I r h
  obtain ⟨z, rfl, hz, q⟩ := h
  obtain ⟨u, rfl, t, rfl⟩ := vals1 r
  exact PySem.P.repr_of_str ⟨.str _, H, I.tok _, ⟨_, rfl⟩, q⟩ hz
theorem ev_reprS {σ : L2.St} {H : Hp} {ta : TE} {s : List Nat} (h : Ev ta σ H (tx s)) (hs : ∀ c ∈ s, c < 1114112) (hz : s.length ≤ 9000) : Ev (tCB (fun xs H Q => ∃ z : Str, xs = [.str z] ∧ (reprText z).length ≤ sizeLine ∧ Q (.str (reprText z)) H) (tCons ta tNil)) σ H (.str (reprText (SX.S s))) := fun H1 e Q q =>
  h H1 e _ fun H2 e2 => ⟨SX.S s, rfl, by
    have h1 := StrLaws.reprText_len (SX.S s) (by
      intro c hc
      have : c ∈ s := by simpa using hc
      have := hs c this
      omega)
    have h2 : (SX.S s).length = s.length := by rw [SX.S_len]
    have : sizeLine = 16777216 := by decide
    omega, q H2 e2⟩
/-! ### str of a bit -/
theorem str_bit {b : Nat} (h : b < 2) : (toString (b : Int) : Str) = SX.S [48 + b] := by
  match b, h with
  | 0, _ => decide +kernel
  | 1, _ => decide +kernel
theorem ev_strBit {σ : L2.St} {H : Hp} {ta : TE} {b : Nat} (hb : b < 2) (h : Ev ta σ H (.int (b : Int))) : Ev (tCB (fun xs H Q => ∃ i : Int, xs = [.int i] ∧ i.natAbs.log2 < 1920 ∧ Q (.str (toString i)) H) (tCons ta tNil)) σ H (tx [48 + b]) := fun H1 e Q q =>
  h H1 e _ fun H2 e2 => ⟨(b : Int), rfl, by
    match b, hb with
    | 0, _ => decide +kernel
    | 1, _ => decide +kernel, by rw [str_bit hb]; exact q H2 e2⟩
/-! ### long texts joined -/
theorem join_okB {K : PySem.W.Frag} {H : Hp} {p : Addr} {ps : List (List Nat)} (hp : SqL K H p (ps.map tx) ∨ SqT K H p (ps.map tx)) (hz : ps.flatten.length ≤ 1000000) {Q : VK} (q : Q (tx ps.flatten) H) : rJoin K (tx []) [.ref p] H Q := by
  refine ⟨SX.S [], p, ps.map SX.S, rfl, rfl, by rw [← map_tx]; exact hp, ?_, ?_⟩
  · rw [sum_lens, SX.S_len]
    have : sizeLine = 16777216 := by decide
    show _ + _ * 0 ≤ _
    omega
  · rw [join_flat]
    exact q
section
variable {K : PySem.W.Frag} {σ : L2.St} {H : Hp} {ta tb : TE}
theorem ev_joinB {p : Addr} {ps : List (List Nat)} (ha : Ev ta σ H (tx [])) (hb : Ev tb σ H (.ref p)) (hp : SqL K H p (ps.map tx) ∨ SqT K H p (ps.map tx)) (hz : ps.flatten.length ≤ 1000000) : Ev (tM1 (rJoin K) ta tb) σ H (tx ps.flatten) := fun H1 e Q q =>
  ha H1 e _ fun H2 e2 => ⟨⟨_, rfl⟩, hb H2 (e.trans e2) _ fun H3 e3 => join_okB (hp.elim (fun h => .inl (ex_l ((e.trans e2).trans e3) h)) (fun h => .inr (ex_t ((e.trans e2).trans e3) h))) hz (q H3 (e2.trans e3))⟩
theorem ev_joinLB {ps : List (List Nat)} (ha : Ev ta σ H (tx [])) (hb : EvL tb σ H (ps.map tx)) (hz : ps.flatten.length ≤ 1000000) : Ev (tM1 (rJoin K) ta tb) σ H (tx ps.flatten) := fun H1 e Q q =>
  ha H1 e _ fun H2 e2 => ⟨⟨_, rfl⟩, hb H2 (e.trans e2) _ fun p H3 _ e3 h3 => join_okB (.inl (sq_of h3)) hz (q H3 (e2.trans e3))⟩
end
end Ver
namespace Ver
open PySem PySem.Spec PyProof.Rows L2 Evl
/-! ### sorted(text) -/
theorem strs_signs : ∀ {vs : List Value} {l : List Nat}, vs.length = l.length → (∀ (j : Nat) (v : Value), vs[j]? = some v → ∃ c u, l[j]? = some c ∧ v = .str (SX.S [c]) u) → StrsAre vs (l.map fun c => SX.S [c])
  | [], [], _, _ => .nil
  | [], _ :: _, h, _ => by simp at h
  | _ :: _, [], h, _ => by simp at h
  | v :: vs, c :: l, h, k => by
    obtain ⟨d, u, h1, rfl⟩ := k 0 v rfl
    cases Option.some.inj h1
    exact .cons _ u (strs_signs (by simpa using h) fun j w hw => k (j + 1) w hw)
theorem sorted_sg {P : Program} {w : World} {A : Around} {E : Value → Shared → Prop} {s : Shared} {l : List Nat} {t : Tok} {Q : Value → Shared → Prop} (hh : A.handled = none) (h64 : l.length < 64)
    (hQ : ∀ s' p (out : Array Value) (c : Nat) (ys : List Str), (∀ b o, s.heap.get? b = some o → s'.heap.get? b = some o) → s'.gens = s.gens → s'.os = s.os → s.heap.get? p = none →
      s'.heap.get? p = some (seqObj "list" out c) → StrsAre out.toList ys → ys.Perm (l.map fun c => SX.S [c]) → sortedS ys = true → Q (.ref p) s') :
    wpAny (model P w) A (call (.builtin "sorted") [.str (SX.S l) t]) Q E s := by
  have hsz : (SX.S l).cps.size = l.length := by
    show l.toArray.size = _
    simp
  refine Calls.call_function_entry kind_sorted plain_sorted entry_sorted (args_sorted1 _) ?_
  unfold Builtin.«sorted»
  refine wpAny_bind (m := checkCount "sorted" 1 1 _) (wpAny_pure ?_)
  refine wpAny_bind (wpAny_collect_str (A := A.in1) hh (SX.S l) t (fun s1 acc k1 g1 d1 o1 hacc => ?_) (by rw [hsz, sizeLine_eq]; omega))
  have hl : acc.toList.length = l.length := by rw [Array.length_toList, hacc.1, hsz]
  have hI : StrsAre acc.toList (l.map fun c => SX.S [c]) := strs_signs hl fun j v hv => by
    obtain ⟨c, u, h1, h2⟩ := hacc.2 j v (by simpa using hv)
    have h3 : l.toArray[j]? = some c := h1
    exact ⟨c, u, by simpa using h3, h2⟩
  have hz : s.heap.get? s1.heap.objs.size = none := by
    cases e : s.heap.get? s1.heap.objs.size with
    | none => rfl
    | some u => exact absurd (Heap.lt_size (k1 _ _ e)) (Nat.lt_irrefl _)
  refine wpAny_bind (wpAny_newList ?_ (by rw [hl, sizeLine_eq]; omega))
  have hoL : (s1.heap.push (seqObj "list" acc.toList.toArray 0)).get? s1.heap.objs.size = some (seqObj "list" acc.toList.toArray 0) := Heap.get?_push_size _ rfl
  refine wpAny_bind (wpAny_holding (wpAny_call_entry slot_list_sort ⟨_, hoL, rfl⟩ entry_list_sort (list_sort_treeK strKind_oneLt hoL hI.keysOf (fun v1 v2 rest e => keyKind_strs (by rw [← e]; exact hI)) (by rw [hl]; exact h64) fun st' hp hs => ⟨_, rfl, ?_⟩) (args_list_sort _)))
  obtain ⟨ss', a1, a2, a3⟩ := sorted_out_str hI hp hs
  obtain ⟨c, hc⟩ := sortedHeap_at (vs := acc.toList) (out := (arrOf st').map (·.2)) hoL
  refine wpAny_pure ⟨_, rfl, hQ _ s1.heap.objs.size _ c ss' (fun b u e => ?_) g1 o1 hz hc a1 a2 a3⟩
  have q := k1 b u e
  have hlt := Heap.lt_size q
  show (sortedHeap (s1.heap.push (seqObj "list" acc.toList.toArray 0)) s1.heap.objs.size acc.toList _).get? b = some u
  rw [sortedHeap_old (Nat.ne_of_lt hlt) (by rw [size_push']; exact Nat.lt_succ_of_lt hlt)]
  exact Heap.get?_push_of_some _ q
def rSortSg : List V → Hp → VK → Prop := fun vs H Q => ∃ l : List Nat, vs = [tx l] ∧ l.length < 64 ∧ ∀ (ys : List Str) (p : Addr), ys.Perm (l.map fun c => SX.S [c]) → sortedS ys = true → H p = none → Q (.ref p) (upd H p (.lst (ys.map V.str)))
theorem call_sortedSg {X : Cx} (hc : X.calm = true) : CallR X (.builtin "sorted") rSortSg := by
  intro pins s σ H vs us Q I r h
  obtain ⟨l, rfl, h64, q⟩ := h
  obtain ⟨u, rfl, t, rfl⟩ := vals1 r
  refine sorted_sg (I.ok.hd hc) h64 fun s' p out c ys k g o hp hg hi pm hs => ?_
  have hlen : (ys.map V.str).length ≤ sizeLine := by rw [List.length_map, pm.length_eq, List.length_map, sizeLine_eq]; omega
  have hn : H p = none := I.hok.gone hp
  have J : Inv X pins σ (upd H p (.lst (ys.map V.str))) { s with heap := s'.heap, gens := s'.gens, drawn := s'.drawn, toks := s'.toks } :=
    I.call (ch := []) (Un.laidN k hp hn) (I.hok.laidN k hn ⟨hlen, out.toList, c, vals_of_strs hi, hg⟩) (by rw [g]; exact I.bare) (fun _ z => nomatch z)
  have e : s' = { s with heap := s'.heap, gens := s'.gens, drawn := s'.drawn, toks := s'.toks } := by
    cases s'
    cases s
    cases o
    rfl
  rw [e]
  exact ⟨.ref p, _, J, rfl, q ys p pm hs hn⟩
/-! ### a list made over a text, with a condition -/
section
variable {K : PySem.W.Frag} {σ : L2.St} {H : Hp} {te tl : TE} {t : TT}
theorem range_getD (x : List Nat) : (List.range x.length).map (fun i => x.getD i 0) = x := by
  refine List.ext_getElem (by simp) fun i h1 h2 => ?_
  rw [List.getElem_map, List.getElem_range, List.getD_eq_getElem?_getD, List.getElem?_eq_getElem h2]
  rfl
theorem given_filter (x : List Nat) (f : Nat → Bool) (v : Nat → V) : given x.length (fun i => f (x.getD i 0)) (fun i => v (x.getD i 0)) = (x.filter f).map v := by
  have e : x.filter f = ((List.range x.length).map fun i => x.getD i 0).filter f := by rw [range_getD]
  rw [e, List.filter_map, List.map_map]
  rfl
theorem el_lcSF {x : List Nat} {j : Nat} {vs : List Nat} (f : Nat → Bool) (v : Nat → V) (h : Ev tl σ H (tx x)) (hz : x.length ≤ 40000) (hw : ∀ a, wipe ((wipe σ vs).set j (some a)) vs = wipe σ vs)
    (ht : ∀ (i c : Nat) H1, Ex H H1 → x[i]? = some c → EvT t ((wipe σ vs).set j (some (tx [c]))) H1 (f c))
    (he : ∀ (i c : Nat) H1, Ex H H1 → x[i]? = some c → Ev te ((wipe σ vs).set j (some (tx [c]))) H1 (v c)) :
    EvL (tLc (iStr tl) (gName j) t te vs) σ H ((x.filter f).map v) := fun H0 e Q q => h H0 e _ fun H1 e1 => ⟨SX.S x, rfl, fun Dl hD => by
  have hn : (SX.S x).cps.size = x.length := by
    show x.toArray.size = _
    simp
  refine lc_it (walk_str (z := SX.S x)) (Cw H1 (fun i => f (x.getD i 0)) (fun i => v (x.getD i 0)) Dl) ⟨hD, Ex.new hD, upd_same⟩ (fun _ _ _ _ => trivial) (fun i z H' H2 hi p yp => ?_) (fun H' p => ?_)
  · obtain ⟨rfl, c, hc, rfl⟩ := yp
    have hc2 : x[i]? = some c := by
      have : (SX.S x).cps.toList[i]? = some c := by rw [Array.getElem?_toList]; exact hc
      exact this
    have hlt := (List.getElem?_eq_some_iff.mp hc2).1
    have eg : x.getD i 0 = c := by
      rw [List.getD_eq_getElem?_getD, hc2]
      rfl
    refine ⟨hw _, cw_turn p (by omega) ?_ fun _ => ?_⟩
    · rw [eg]
      exact ht i c H1 (e.trans e1) hc2
    · rw [eg]
      exact he i c H1 (e.trans e1) hc2
  · rw [hn] at p
    have p3 := p.2.2
    rw [given_filter] at p3
    exact q Dl H' (fresh_back e1 p.1) (e1.trans p.2.1) p3⟩
end
theorem rv_niSign {c : Nat} {l : List Nat} {H : Hp} : RV (fun x y H Q => ∃ (c : Nat) (z : Str), x = .str ⟨#[c]⟩ ∧ y = .str z ∧ Q (.bl (!decide (c ∈ z.cps.toList))) H) (tx [c]) (tx l) H (.bl (!decide (c ∈ l))) := fun H1 _ Q q => ⟨c, SX.S l, rfl, rfl, by
  have e : (SX.S l).cps.toList = l := by
    show l.toArray.toList = l
    simp
  rw [e]
  exact q H1 (Ex.refl H1)⟩
end Ver
namespace Ver
open PySem PySem.Spec PyProof.Rows L2 Evl
/-! ### == of an own object and anything; isinstance of anything -/
theorem sub_no {K : PySem.W.Frag} {C : Addr} {T : String} {l : List Value} (h : fastBuiltinMro T = some l) (hl : l.all (fun v => match v with | .type _ => true | _ => false) = true) : PySem.W.subIn K (.type T) (.ref C) = some false := by
  show (fastBuiltinMro T).map (fun l => l.contains (.ref C)) = some false
  rw [h]
  show some (l.contains (.ref C)) = some false
  congr 1
  rw [List.contains_eq_any_beq, List.any_eq_false]
  intro x hx
  have := List.all_eq_true.mp hl x hx
  cases x with
  | type n =>
    intro z
    cases (beq_iff_eq.mp z)
  | _ => cases this
theorem notFirst_ty {K : PySem.W.Frag} {C : Addr} {T : String} (e : PySem.W.subIn K (.type T) (.ref C) = some false) : PySem.W.notFirst K C (.type T) = true := by
  show ((.type T : Value) == .ref C || PySem.W.subIn K (.type T) (.ref C) == some false) = true
  rw [e]
  exact Bool.or_true _
theorem kit_no_of {K : PySem.W.Frag} {C : Addr} {T : String} (ks : PySem.W.kitOne K (.type "str") (.ref C) = some false) (e : PySem.W.subIn K (.type T) (.ref C) = some false) : PySem.W.kitOne K (.type T) (.ref C) = some false := by
  unfold PySem.W.kitOne at ks ⊢
  have h1 : ((.type "str" : Value) == .ref C) = false := rfl
  have h2 : ((.type T : Value) == .ref C) = false := rfl
  rw [h1] at ks
  rw [h2]
  simp only [Bool.false_eq_true, if_false] at ks ⊢
  unfold PySem.W.kitCls at ks ⊢
  simp only at ks ⊢
  split at ks
  · rename_i h
    rw [if_pos h]
    exact e
  · cases ks
theorem sub_int {K : PySem.W.Frag} {C : Addr} : PySem.W.subIn K (.type "int") (.ref C) = some false := sub_no (l := [.type "int", .type "object"]) (by rfl) (by rfl)
theorem sub_bool {K : PySem.W.Frag} {C : Addr} : PySem.W.subIn K (.type "bool") (.ref C) = some false := sub_no (l := [.type "bool", .type "int", .type "object"]) (by rfl) (by rfl)
theorem sub_non {K : PySem.W.Frag} {C : Addr} : PySem.W.subIn K (.type "NoneType") (.ref C) = some false := sub_no (l := [.type "NoneType", .type "object"]) (by rfl) (by rfl)
theorem sub_tup {K : PySem.W.Frag} {C : Addr} : PySem.W.subIn K (.type "tuple") (.ref C) = some false := sub_no (l := [.type "tuple", .type "object"]) (by rfl) (by rfl)
/-- what stands on the right of an own == -/
inductive RightOf (H : Hp) (C : Addr) : V → Prop where
  | own {b dy : Addr} {gs : List (Str × V)} : H b = some (.ins C dy gs) → RightOf H C (.ref b)
  | tup {b : Addr} {xs : List V} : H b = some (.tup xs) → RightOf H C (.ref b)
  | str (s : Str) : RightOf H C (.str s)
  | int (i : Int) : RightOf H C (.int i)
  | bl (b : Bool) : RightOf H C (.bl b)
  | non : RightOf H C .non
theorem RightOf.mono {H H' : Hp} {C : Addr} {y : V} (h : RightOf H C y) (e : Ex H H') : RightOf H' C y := by
  cases h with
  | own h => exact .own (e _ _ h)
  | tup h => exact .tup (e _ _ h)
  | str s => exact .str s
  | int i => exact .int i
  | bl b => exact .bl b
  | non => exact .non
def rOwnA (C : Addr) (sp : Sp) (E : XK) : R2 := fun x y H Q => ∃ a dx fs, x = .ref a ∧ H a = some (.ins C dx fs) ∧ RightOf H C y ∧ sp [x, y] H (fun v H' => (∃ b, v = .bl b) ∧ Q v H') E
section
variable {X : Cx} {CX : CXT} {k : Nat} {f C : Addr} {fd : FuncData} {ps : List Str} {sp : Sp} {E : XK}
theorem op_ownA (M : Meth X.K C "__eq__" f) (F : FnOk X.prog X.w X.K X.mg X.base CX k f fd ps sp) (hr : Room k X.A) (hb : L2.Binds X.K fd ps []) (hx : Passes CX X E) : OpR X (compareOp .Eq) (rOwnA C sp E) := by
  intro pins s σ H x y v u Q I rx ry h
  obtain ⟨a, dx, fs, rfl, ha, hy, hq⟩ := h
  obtain rfl : v = Value.ref a := rx
  obtain ⟨mA, J, _⟩ := ins_get I.hok ha
  obtain ⟨od, J, _⟩ := J.look
  obtain ⟨m, hF⟩ := I.fr
  show wpAny (model X.prog X.w) X.A (richCompare .Eq (.ref a) u) (EP X pins σ Q) X.xe s
  have go : wpAny (model X.prog X.w) X.A (call (.ref f) [.ref a, u]) (PySem.W.CmpBack (EP X pins σ Q)) X.xe s :=
    wpAny_mono (run_fn (us := [.ref a, u]) (vs := [.ref a, y]) (dvs := []) (ds := []) F hr hb .nil hx I (.cons rfl (.cons ry .nil)) hq) (fun r s' z => by
      obtain ⟨w, H', I', rw', ⟨b, hb'⟩, q⟩ := z
      subst hb'
      obtain rfl : r = Value.bool b := rw'
      exact ⟨.bl b, H', I', rfl, q⟩) fun _ _ z => z
  cases hy with
  | @own b dy gs hb2 =>
    obtain rfl : u = Value.ref b := ry
    obtain ⟨mB, J', _⟩ := ins_get I.hok hb2
    obtain ⟨od', J', _⟩ := J'.look
    exact PySem.W.cmp_K (op := .Eq) (tb := .ref C) hr.units0 hF I.ok.mod.kin J J'.type notFirst_own M.at_ M.fn go
  | @tup b xs hb2 =>
    obtain rfl : u = Value.ref b := ry
    obtain ⟨_, its, rv, o, h1, h2, n, h3⟩ := (show ObjOk X.prog X.w H s.heap b (.tup xs) from I.hok b _ hb2)
    have ty : PySem.W.Looks (model X.prog X.w) s.heap (typeOf (.ref b)) (.type "tuple") := h2 ▸ (PySem.W.Looks.ld h1).andThen .now
    exact PySem.W.cmp_K (op := .Eq) (tb := .type "tuple") hr.units0 hF I.ok.mod.kin J ty (notFirst_ty sub_tup) M.at_ M.fn go
  | str t =>
    obtain ⟨tk, rfl⟩ : ∃ tk, u = Value.str t tk := ry
    exact PySem.W.cmp_K (op := .Eq) (tb := .type "str") hr.units0 hF I.ok.mod.kin J (PySem.W.looks_typeIn I.kIn rfl) notFirst_str M.at_ M.fn go
  | int i =>
    obtain ⟨tk, rfl⟩ : ∃ tk, u = Value.int i tk := ry
    exact PySem.W.cmp_K (op := .Eq) (tb := .type "int") hr.units0 hF I.ok.mod.kin J (PySem.W.looks_typeIn I.kIn rfl) (notFirst_ty sub_int) M.at_ M.fn go
  | bl b =>
    obtain rfl : u = Value.bool b := ry
    exact PySem.W.cmp_K (op := .Eq) (tb := .type "bool") hr.units0 hF I.ok.mod.kin J (PySem.W.looks_typeIn I.kIn rfl) (notFirst_ty sub_bool) M.at_ M.fn go
  | non =>
    obtain rfl : u = Value.none := ry
    exact PySem.W.cmp_K (op := .Eq) (tb := .type "NoneType") hr.units0 hF I.ok.mod.kin J (PySem.W.looks_typeIn I.kIn rfl) (notFirst_ty sub_non) M.at_ M.fn go
end
section
variable {K : PySem.W.Frag} {σ : L2.St} {H : Hp} {C : Addr} {ta tb : TE}
theorem ev_ownA {sp : Sp} {E : XK} {a dx : Addr} {fs : List (Str × V)} {y : V} {b : Bool} (ha : Ev ta σ H (.ref a)) (hb : Ev tb σ H y) (hi : H a = some (.ins C dx fs)) (hy : RightOf H C y)
    (hs : ∀ H1, Ex H H1 → ∀ Q : VK, (∀ H2, Ex H1 H2 → Q (.bl b) H2) → sp [.ref a, y] H1 Q E) : Ev (tOp (rOwnA C sp E) ta tb) σ H (.bl b) := fun H1 e Q q => ha H1 e _ fun H2 e2 => hb H2 (e.trans e2) _ fun H3 e3 =>
  ⟨a, dx, fs, rfl, ((e.trans e2).trans e3) _ _ hi, hy.mono ((e.trans e2).trans e3), hs H3 ((e.trans e2).trans e3) _ fun H4 e4 => ⟨⟨b, rfl⟩, q H4 ((e2.trans e3).trans e4)⟩⟩
/-- isinstance(y, C): y no object of the class -/
theorem rc_isiNo {y : V} {T : String} (G : EqC K C) (e : PySem.W.subIn K (.type T) (.ref C) = some false) (ht : ∀ H1, Ex H H1 → TyX K H1 y (.type T)) : RC (rIsi K) [y, .ref C] H (.bl false) := fun H1 x _ q =>
  ⟨y, .ref C, _, _, false, rfl, .own C, ht H1 x, kit_no_of G.ks e, q H1 (Ex.refl H1)⟩
end
/-! ### equal rows -/
theorem eqv_rows : ∀ as bs : Rw, PyData.eqvAll (as.map pd) (bs.map pd) = decide (as = bs)
  | [], [] => rfl
  | [], b :: bs => by simp [PyData.eqvAll]
  | a :: as, [] => by simp [PyData.eqvAll]
  | a :: as, b :: bs => by
    rw [List.map_cons, List.map_cons, PyData.eqvAll, pd_eqv, eqv_rows as bs, Bool.eq_iff_iff, Bool.and_eq_true, decide_eq_true_eq, decide_eq_true_eq, decide_eq_true_eq, List.cons.injEq]
theorem rv_eqRows {K : PySem.W.Frag} {H : Hp} {p q : Addr} {xs ys : List V} {rs qs : Rw} {al al2 : List Nat} (A : Alf al) (A2 : Alf al2) (hr : ∀ r ∈ rs, r.2 ∈ al) (hq : ∀ r ∈ qs, r.2 ∈ al2) (h1 : H p = some (.tup xs)) (h2 : RowsAt H xs rs) (h3 : H q = some (.tup ys)) (h4 : RowsAt H ys qs) : RV (rEqD K) (.ref p) (.ref q) H (.bl (decide (rs = qs))) := fun H1 e Q k =>
  ⟨.tuple (rs.map pd), .tuple (qs.map pd), .tup (st_of (e _ _ h1)) (dp_rows _ _ (h2.mono e)), .tup (st_of (e _ _ h3)) (dp_rows _ _ (h4.mono e)), shaped_tup (n := 1) (fun d hd => by
    obtain ⟨r, hr', rfl⟩ := List.mem_map.mp hd
    exact lay_pd (A.uni (hr r hr'))) (by decide), shaped_tup (n := 1) (fun d hd => by
    obtain ⟨r, hr', rfl⟩ := List.mem_map.mp hd
    exact lay_pd (A2.uni (hq r hr'))) (by decide), by
    show Q (.bl (PyData.eqvAll (rs.map pd) (qs.map pd))) H1
    rw [eqv_rows]
    exact k H1 (Ex.refl H1)⟩
end Ver
namespace Ver
open PySem PySem.Spec PyProof.Rows L2 Evl
def top (i : Nat) : Stmt := PySem.Challenge.pw_outpressed_k00_cut_whole.main.body.getD i (.Pass ⟨0, 0, 0, 0⟩)
abbrev s_BadAlphabet___init__ : Stmt := inClass (top 2) 0
abbrev N_BadAlphabet___init__ : List Str := ["self", "alphabet"]
theorem S_BadAlphabet___init__ : FnScope N_BadAlphabet___init__ ["self", "alphabet"] (defScope s_BadAlphabet___init__) := ⟨rfl, rfl, rfl, by decide +kernel, rfl, by decide +kernel, by decide +kernel⟩
abbrev s_BadLetter___init__ : Stmt := inClass (top 3) 0
abbrev N_BadLetter___init__ : List Str := ["self", "index"]
theorem S_BadLetter___init__ : FnScope N_BadLetter___init__ ["self", "index"] (defScope s_BadLetter___init__) := ⟨rfl, rfl, rfl, by decide +kernel, rfl, by decide +kernel, by decide +kernel⟩
abbrev s_is_alphabet : Stmt := top 29
abbrev N_is_alphabet : List Str := ["string", "one", "two"]
theorem S_is_alphabet : FnScope N_is_alphabet ["string"] (defScope s_is_alphabet) := ⟨rfl, rfl, rfl, by decide +kernel, rfl, by decide +kernel, by decide +kernel⟩
abbrev s_is_letter : Stmt := top 30
abbrev N_is_letter : List Str := ["alphabet", "value"]
theorem S_is_letter : FnScope N_is_letter ["alphabet", "value"] (defScope s_is_letter) := ⟨rfl, rfl, rfl, by decide +kernel, rfl, by decide +kernel, by decide +kernel⟩
abbrev s_check_alphabet : Stmt := top 31
abbrev N_check_alphabet : List Str := ["alphabet"]
theorem S_check_alphabet : FnScope N_check_alphabet ["alphabet"] (defScope s_check_alphabet) := ⟨rfl, rfl, rfl, by decide +kernel, rfl, by decide +kernel, by decide +kernel⟩
abbrev s_check_text : Stmt := top 32
abbrev N_check_text : List Str := ["alphabet", "text", "rest"]
theorem S_check_text : FnScope N_check_text ["alphabet", "text"] (defScope s_check_text) := ⟨rfl, rfl, rfl, by decide +kernel, rfl, by decide +kernel, by decide +kernel⟩
abbrev s_is_whole : Stmt := top 34
abbrev N_is_whole : List Str := ["value"]
theorem S_is_whole : FnScope N_is_whole ["value"] (defScope s_is_whole) := ⟨rfl, rfl, rfl, by decide +kernel, rfl, by decide +kernel, by decide +kernel⟩
abbrev s_is_number_below : Stmt := top 35
abbrev N_is_number_below : List Str := ["value", "many"]
theorem S_is_number_below : FnScope N_is_number_below ["value", "many"] (defScope s_is_number_below) := ⟨rfl, rfl, rfl, by decide +kernel, rfl, by decide +kernel, by decide +kernel⟩
abbrev s_as_tuples : Stmt := top 36
abbrev N_as_tuples : List Str := ["value", "item"]
theorem S_as_tuples : FnScope N_as_tuples ["value"] (defScope s_as_tuples) := ⟨rfl, rfl, rfl, by decide +kernel, rfl, by decide +kernel, by decide +kernel⟩
abbrev s_Cut___init__ : Stmt := inClass (top 38) 0
abbrev N_Cut___init__ : List Str := ["self", "alphabet", "rows", "tail", "kept"]
theorem S_Cut___init__ : FnScope N_Cut___init__ ["self", "alphabet", "rows", "tail"] (defScope s_Cut___init__) := ⟨rfl, rfl, rfl, by decide +kernel, rfl, by decide +kernel, by decide +kernel⟩
abbrev s_Cut___eq__ : Stmt := inClass (top 38) 1
abbrev N_Cut___eq__ : List Str := ["self", "other"]
theorem S_Cut___eq__ : FnScope N_Cut___eq__ ["self", "other"] (defScope s_Cut___eq__) := ⟨rfl, rfl, rfl, by decide +kernel, rfl, by decide +kernel, by decide +kernel⟩
abbrev s_check_rows : Stmt := top 39
abbrev N_check_rows : List Str := ["alphabet", "rows", "earlier", "index", "row", "parent", "letter"]
theorem S_check_rows : FnScope N_check_rows ["alphabet", "rows"] (defScope s_check_rows) := ⟨rfl, rfl, rfl, by decide +kernel, rfl, by decide +kernel, by decide +kernel⟩
abbrev s_pieces_of : Stmt := top 40
abbrev N_pieces_of : List Str := ["rows", "pieces", "parent", "letter"]
theorem S_pieces_of : FnScope N_pieces_of ["rows"] (defScope s_pieces_of) := ⟨rfl, rfl, rfl, by decide +kernel, rfl, by decide +kernel, by decide +kernel⟩
abbrev s_starts_of : Stmt := top 41
abbrev N_starts_of : List Str := ["pieces", "starts", "place", "piece"]
theorem S_starts_of : FnScope N_starts_of ["pieces"] (defScope s_starts_of) := ⟨rfl, rfl, rfl, by decide +kernel, rfl, by decide +kernel, by decide +kernel⟩
abbrev s_cut_of : Stmt := top 42
abbrev N_cut_of : List Str := ["alphabet", "text", "numbers", "rows", "piece", "letter", "row"]
theorem S_cut_of : FnScope N_cut_of ["alphabet", "text"] (defScope s_cut_of) := ⟨rfl, rfl, rfl, by decide +kernel, rfl, by decide +kernel, by decide +kernel⟩
abbrev s__law_whole : Stmt := top 44
abbrev N__law_whole : List Str := ["value"]
theorem S__law_whole : FnScope N__law_whole ["value"] (defScope s__law_whole) := ⟨rfl, rfl, rfl, by decide +kernel, rfl, by decide +kernel, by decide +kernel⟩
abbrev s__law_cell : Stmt := top 45
abbrev N__law_cell : List Str := ["script", "k", "seed", "cell"]
theorem S__law_cell : FnScope N__law_cell ["script", "k"] (defScope s__law_cell) := ⟨rfl, rfl, rfl, by decide +kernel, rfl, by decide +kernel, by decide +kernel⟩
abbrev s__law_digits : Stmt := top 46
abbrev N__law_digits : List Str := ["cell", "sizes", "row", "rest", "size", "seed", "k", "twice"]
theorem S__law_digits : FnScope N__law_digits ["cell", "sizes"] (defScope s__law_digits) := ⟨rfl, rfl, rfl, by decide +kernel, rfl, by decide +kernel, by decide +kernel⟩
abbrev s__law_signs : Stmt := top 47
abbrev N__law_signs : List Str := ["row", "many", "letters", "taken", "k", "at", "turn"]
theorem S__law_signs : FnScope N__law_signs ["row"] (defScope s__law_signs) := ⟨rfl, rfl, rfl, by decide +kernel, rfl, by decide +kernel, by decide +kernel⟩
abbrev s__law_plain_word : Stmt := top 48
abbrev N__law_plain_word : List Str := ["signs", "row", "most", "k"]
theorem S__law_plain_word : FnScope N__law_plain_word ["signs", "row", "most"] (defScope s__law_plain_word) := ⟨rfl, rfl, rfl, by decide +kernel, rfl, by decide +kernel, by decide +kernel⟩
abbrev s__law_counting_word : Stmt := top 49
abbrev N__law_counting_word : List Str := ["signs", "most", "made", "words", "turn", "grown", "word", "letter"]
theorem S__law_counting_word : FnScope N__law_counting_word ["signs", "most"] (defScope s__law_counting_word) := ⟨rfl, rfl, rfl, by decide +kernel, rfl, by decide +kernel, by decide +kernel⟩
abbrev s__law_short_word : Stmt := top 50
abbrev N__law_short_word : List Str := ["signs", "row", "most", "free", "kind", "made", "k"]
theorem S__law_short_word : FnScope N__law_short_word ["signs", "row"] (defScope s__law_short_word) := ⟨rfl, rfl, rfl, by decide +kernel, rfl, by decide +kernel, by decide +kernel⟩
abbrev s__law_ruled_word : Stmt := top 51
abbrev N__law_ruled_word : List Str := ["signs", "row", "most", "free", "made", "k", "at"]
theorem S__law_ruled_word : FnScope N__law_ruled_word ["signs", "row"] (defScope s__law_ruled_word) := ⟨rfl, rfl, rfl, by decide +kernel, rfl, by decide +kernel, by decide +kernel⟩
abbrev s__law_free_word : Stmt := top 52
abbrev N__law_free_word : List Str := ["script", "first", "signs", "most", "made", "k"]
theorem S__law_free_word : FnScope N__law_free_word ["script", "first", "signs", "most"] (defScope s__law_free_word) := ⟨rfl, rfl, rfl, by decide +kernel, rfl, by decide +kernel, by decide +kernel⟩
abbrev s__law_characters : Stmt := top 53
abbrev N__law_characters : List Str := ["made"]
theorem S__law_characters : FnScope N__law_characters [] (defScope s__law_characters) := ⟨rfl, rfl, rfl, by decide +kernel, rfl, by decide +kernel, by decide +kernel⟩
abbrev s__law_is_alphabet : Stmt := top 54
abbrev N__law_is_alphabet : List Str := ["word", "letters", "last", "sign", "at"]
theorem S__law_is_alphabet : FnScope N__law_is_alphabet ["word"] (defScope s__law_is_alphabet) := ⟨rfl, rfl, rfl, by decide +kernel, rfl, by decide +kernel, by decide +kernel⟩
abbrev s__law_stray : Stmt := top 55
abbrev N__law_stray : List Str := ["signs", "word", "k"]
theorem S__law_stray : FnScope N__law_stray ["signs", "word"] (defScope s__law_stray) := ⟨rfl, rfl, rfl, by decide +kernel, rfl, by decide +kernel, by decide +kernel⟩
abbrev s__law_spoilt_word : Stmt := top 56
abbrev N__law_spoilt_word : List Str := ["word", "row", "chars", "made", "k", "at", "sign"]
theorem S__law_spoilt_word : FnScope N__law_spoilt_word ["word", "row"] (defScope s__law_spoilt_word) := ⟨rfl, rfl, rfl, by decide +kernel, rfl, by decide +kernel, by decide +kernel⟩
abbrev s__law_odd_signs : Stmt := top 57
abbrev N__law_odd_signs : List Str := ["signs", "row", "chars", "letters", "at", "kind", "one"]
theorem S__law_odd_signs : FnScope N__law_odd_signs ["signs", "row"] (defScope s__law_odd_signs) := ⟨rfl, rfl, rfl, by decide +kernel, rfl, by decide +kernel, by decide +kernel⟩
abbrev s__law_cut : Stmt := top 58
abbrev N__law_cut : List Str := ["word", "pieces", "known", "rows", "here", "letter"]
theorem S__law_cut : FnScope N__law_cut ["word"] (defScope s__law_cut) := ⟨rfl, rfl, rfl, by decide +kernel, rfl, by decide +kernel, by decide +kernel⟩
abbrev s__law_near_word : Stmt := top 59
abbrev N__law_near_word : List Str := ["signs", "word", "row", "free", "at"]
theorem S__law_near_word : FnScope N__law_near_word ["signs", "word", "row"] (defScope s__law_near_word) := ⟨rfl, rfl, rfl, by decide +kernel, rfl, by decide +kernel, by decide +kernel⟩
abbrev s__law_other_signs : Stmt := top 60
abbrev N__law_other_signs : List Str := ["signs", "word", "row", "letters", "taken", "most", "at", "sign"]
theorem S__law_other_signs : FnScope N__law_other_signs ["signs", "word", "row"] (defScope s__law_other_signs) := ⟨rfl, rfl, rfl, by decide +kernel, rfl, by decide +kernel, by decide +kernel⟩
abbrev s__law_says : Stmt := top 61
abbrev N__law_says : List Str := ["answer", "due"]
theorem S__law_says : FnScope N__law_says ["answer", "due"] (defScope s__law_says) := ⟨rfl, rfl, rfl, by decide +kernel, rfl, by decide +kernel, by decide +kernel⟩
abbrev s__law_kinds : Stmt := top 62
abbrev N__law_kinds : List Str := ["told", "row", "piece", "at"]
theorem S__law_kinds : FnScope N__law_kinds ["told"] (defScope s__law_kinds) := ⟨rfl, rfl, rfl, by decide +kernel, rfl, by decide +kernel, by decide +kernel⟩
abbrev s__law_is_cut : Stmt := top 63
abbrev N__law_is_cut : List Str := ["told", "signs", "word", "pieces", "known", "starts", "at", "row", "piece", "many"]
theorem S__law_is_cut : FnScope N__law_is_cut ["told", "signs", "word"] (defScope s__law_is_cut) := ⟨rfl, rfl, rfl, by decide +kernel, rfl, by decide +kernel, by decide +kernel⟩
abbrev s__law_shown : Stmt := top 64
abbrev N__law_shown : List Str := ["told"]
theorem S__law_shown : FnScope N__law_shown ["told"] (defScope s__law_shown) := ⟨rfl, rfl, rfl, by decide +kernel, rfl, by decide +kernel, by decide +kernel⟩
abbrev s__law_kin : Stmt := top 65
abbrev N__law_kin : List Str := ["e", "many"]
theorem S__law_kin : FnScope N__law_kin ["e"] (defScope s__law_kin) := ⟨rfl, rfl, rfl, by decide +kernel, rfl, by decide +kernel, by decide +kernel⟩
abbrev s__law_door : Stmt := top 66
abbrev N__law_door : List Str := ["signs", "word", "by_name", "good", "stray", "told", "e"]
theorem S__law_door : FnScope N__law_door ["signs", "word", "by_name"] (defScope s__law_door) := ⟨rfl, rfl, rfl, by decide +kernel, rfl, by decide +kernel, by decide +kernel⟩
abbrev s__law_equality : Stmt := top 67
abbrev N__law_equality : List Str := ["told", "signs", "word", "other", "other_signs", "turn", "made", "same", "tail", "thing", "row"]
theorem S__law_equality : FnScope N__law_equality ["told", "signs", "word", "other", "other_signs", "turn"] (defScope s__law_equality) := ⟨rfl, rfl, rfl, by decide +kernel, rfl, by decide +kernel, by decide +kernel⟩
abbrev s_law : Stmt := top 68
abbrev N_law : List Str := ["script", "head", "signs", "word", "row", "other", "other_signs", "spoilt", "odd", "told", "first"]
theorem S_law : FnScope N_law ["script"] (defScope s_law) := ⟨rfl, rfl, rfl, by decide +kernel, rfl, by decide +kernel, by decide +kernel⟩
structure Top (K : PySem.W.Frag) (mg : Str → Option Value) (C_Cut : Addr) : Prop where
  z_ValueError : mg "ValueError" = none
  z_all : mg "all" = none
  z_bool : mg "bool" = none
  z_enumerate : mg "enumerate" = none
  z_int : mg "int" = none
  z_isinstance : mg "isinstance" = none
  z_len : mg "len" = none
  z_list : mg "list" = none
  z_max : mg "max" = none
  z_min : mg "min" = none
  z_range : mg "range" = none
  z_repr : mg "repr" = none
  z_sorted : mg "sorted" = none
  z_str : mg "str" = none
  z_tuple : mg "tuple" = none
  z_zip : mg "zip" = none
  c_Cut : mg "Cut" = some (.ref C_Cut)
  cl_Cut : Cls K C_Cut
  n_Cut_alphabet : NoAttr K C_Cut "alphabet"
  n_Cut_rows : NoAttr K C_Cut "rows"
  n_Cut_tail : NoAttr K C_Cut "tail"
  n_Cut_pieces : NoAttr K C_Cut "pieces"
  n_Cut_many : NoAttr K C_Cut "many"
  n_Cut_text : NoAttr K C_Cut "text"
  n_Cut_starts : NoAttr K C_Cut "starts"
  g_LETTERS : ∃ t, mg "LETTERS" = some (.str (Str.ofString "0123456789abcdefghijklmnopqrstuvwxyz") t)
  g_MOST_LETTERS : ∃ t, mg "MOST_LETTERS" = some (.int 6 t)
structure ETop (K : PySem.W.Frag) (mg : Str → Option Value) (C_PressError : Addr) (C_BadAlphabet : Addr) (C_BadLetter : Addr) (C_BadRow : Addr) (C_BadTail : Addr) (C_BadRank : Addr) (C_NotBits : Addr) (C_BadIndex : Addr) (C_BadStanding : Addr) (C_BadRule : Addr) (C_AlphabetsDiffer : Addr) (C_DoesNotComeBack : Addr) (C_TooLarge : Addr) (C_NotWritten : Addr) (C_NoSuchText : Addr) (C_BadName : Addr) (C_NameTaken : Addr) (C_NoName : Addr) (C_EmptyRing : Addr) (C_NotInLot : Addr) (C_BadBuild : Addr) (C_BadGrowth : Addr) (C_EmptyText : Addr) (C_NothingToUndo : Addr) (C_NothingToRedo : Addr) : Prop where
  c_PressError : mg "PressError" = some (.ref C_PressError)
  c_BadAlphabet : mg "BadAlphabet" = some (.ref C_BadAlphabet)
  c_BadLetter : mg "BadLetter" = some (.ref C_BadLetter)
  c_BadRow : mg "BadRow" = some (.ref C_BadRow)
  c_BadTail : mg "BadTail" = some (.ref C_BadTail)
  c_BadRank : mg "BadRank" = some (.ref C_BadRank)
  c_NotBits : mg "NotBits" = some (.ref C_NotBits)
  c_BadIndex : mg "BadIndex" = some (.ref C_BadIndex)
  c_BadStanding : mg "BadStanding" = some (.ref C_BadStanding)
  c_BadRule : mg "BadRule" = some (.ref C_BadRule)
  c_AlphabetsDiffer : mg "AlphabetsDiffer" = some (.ref C_AlphabetsDiffer)
  c_DoesNotComeBack : mg "DoesNotComeBack" = some (.ref C_DoesNotComeBack)
  c_TooLarge : mg "TooLarge" = some (.ref C_TooLarge)
  c_NotWritten : mg "NotWritten" = some (.ref C_NotWritten)
  c_NoSuchText : mg "NoSuchText" = some (.ref C_NoSuchText)
  c_BadName : mg "BadName" = some (.ref C_BadName)
  c_NameTaken : mg "NameTaken" = some (.ref C_NameTaken)
  c_NoName : mg "NoName" = some (.ref C_NoName)
  c_EmptyRing : mg "EmptyRing" = some (.ref C_EmptyRing)
  c_NotInLot : mg "NotInLot" = some (.ref C_NotInLot)
  c_BadBuild : mg "BadBuild" = some (.ref C_BadBuild)
  c_BadGrowth : mg "BadGrowth" = some (.ref C_BadGrowth)
  c_EmptyText : mg "EmptyText" = some (.ref C_EmptyText)
  c_NothingToUndo : mg "NothingToUndo" = some (.ref C_NothingToUndo)
  c_NothingToRedo : mg "NothingToRedo" = some (.ref C_NothingToRedo)
  nf_BadAlphabet_alphabet : PySem.W.findIn K (.ref C_BadAlphabet) "alphabet" = some none
  kt_BadAlphabet_PressError : PySem.W.kitOne K (.ref C_BadAlphabet) (.ref C_PressError) = some true
  kt_BadAlphabet_BadAlphabet : PySem.W.kitOne K (.ref C_BadAlphabet) (.ref C_BadAlphabet) = some true
  kt_BadAlphabet_BadLetter : PySem.W.kitOne K (.ref C_BadAlphabet) (.ref C_BadLetter) = some false
  kt_BadAlphabet_BadRow : PySem.W.kitOne K (.ref C_BadAlphabet) (.ref C_BadRow) = some false
  kt_BadAlphabet_BadTail : PySem.W.kitOne K (.ref C_BadAlphabet) (.ref C_BadTail) = some false
  kt_BadAlphabet_BadRank : PySem.W.kitOne K (.ref C_BadAlphabet) (.ref C_BadRank) = some false
  kt_BadAlphabet_NotBits : PySem.W.kitOne K (.ref C_BadAlphabet) (.ref C_NotBits) = some false
  kt_BadAlphabet_BadIndex : PySem.W.kitOne K (.ref C_BadAlphabet) (.ref C_BadIndex) = some false
  kt_BadAlphabet_BadStanding : PySem.W.kitOne K (.ref C_BadAlphabet) (.ref C_BadStanding) = some false
  kt_BadAlphabet_BadRule : PySem.W.kitOne K (.ref C_BadAlphabet) (.ref C_BadRule) = some false
  kt_BadAlphabet_AlphabetsDiffer : PySem.W.kitOne K (.ref C_BadAlphabet) (.ref C_AlphabetsDiffer) = some false
  kt_BadAlphabet_DoesNotComeBack : PySem.W.kitOne K (.ref C_BadAlphabet) (.ref C_DoesNotComeBack) = some false
  kt_BadAlphabet_TooLarge : PySem.W.kitOne K (.ref C_BadAlphabet) (.ref C_TooLarge) = some false
  kt_BadAlphabet_NotWritten : PySem.W.kitOne K (.ref C_BadAlphabet) (.ref C_NotWritten) = some false
  kt_BadAlphabet_NoSuchText : PySem.W.kitOne K (.ref C_BadAlphabet) (.ref C_NoSuchText) = some false
  kt_BadAlphabet_BadName : PySem.W.kitOne K (.ref C_BadAlphabet) (.ref C_BadName) = some false
  kt_BadAlphabet_NameTaken : PySem.W.kitOne K (.ref C_BadAlphabet) (.ref C_NameTaken) = some false
  kt_BadAlphabet_NoName : PySem.W.kitOne K (.ref C_BadAlphabet) (.ref C_NoName) = some false
  kt_BadAlphabet_EmptyRing : PySem.W.kitOne K (.ref C_BadAlphabet) (.ref C_EmptyRing) = some false
  kt_BadAlphabet_NotInLot : PySem.W.kitOne K (.ref C_BadAlphabet) (.ref C_NotInLot) = some false
  kt_BadAlphabet_BadBuild : PySem.W.kitOne K (.ref C_BadAlphabet) (.ref C_BadBuild) = some false
  kt_BadAlphabet_BadGrowth : PySem.W.kitOne K (.ref C_BadAlphabet) (.ref C_BadGrowth) = some false
  kt_BadAlphabet_EmptyText : PySem.W.kitOne K (.ref C_BadAlphabet) (.ref C_EmptyText) = some false
  kt_BadAlphabet_NothingToUndo : PySem.W.kitOne K (.ref C_BadAlphabet) (.ref C_NothingToUndo) = some false
  kt_BadAlphabet_NothingToRedo : PySem.W.kitOne K (.ref C_BadAlphabet) (.ref C_NothingToRedo) = some false
  kt_BadAlphabet_VE : PySem.W.kitOne K (.ref C_BadAlphabet) (.type "ValueError") = some true
  ex_BadAlphabet_BadAlphabet : PySem.W.exmOne K (.ref C_BadAlphabet) (.ref C_BadAlphabet) = some true
  ex_BadAlphabet_BadLetter : PySem.W.exmOne K (.ref C_BadAlphabet) (.ref C_BadLetter) = some false
  nf_BadLetter_index : PySem.W.findIn K (.ref C_BadLetter) "index" = some none
  kt_BadLetter_PressError : PySem.W.kitOne K (.ref C_BadLetter) (.ref C_PressError) = some true
  kt_BadLetter_BadAlphabet : PySem.W.kitOne K (.ref C_BadLetter) (.ref C_BadAlphabet) = some false
  kt_BadLetter_BadLetter : PySem.W.kitOne K (.ref C_BadLetter) (.ref C_BadLetter) = some true
  kt_BadLetter_BadRow : PySem.W.kitOne K (.ref C_BadLetter) (.ref C_BadRow) = some false
  kt_BadLetter_BadTail : PySem.W.kitOne K (.ref C_BadLetter) (.ref C_BadTail) = some false
  kt_BadLetter_BadRank : PySem.W.kitOne K (.ref C_BadLetter) (.ref C_BadRank) = some false
  kt_BadLetter_NotBits : PySem.W.kitOne K (.ref C_BadLetter) (.ref C_NotBits) = some false
  kt_BadLetter_BadIndex : PySem.W.kitOne K (.ref C_BadLetter) (.ref C_BadIndex) = some false
  kt_BadLetter_BadStanding : PySem.W.kitOne K (.ref C_BadLetter) (.ref C_BadStanding) = some false
  kt_BadLetter_BadRule : PySem.W.kitOne K (.ref C_BadLetter) (.ref C_BadRule) = some false
  kt_BadLetter_AlphabetsDiffer : PySem.W.kitOne K (.ref C_BadLetter) (.ref C_AlphabetsDiffer) = some false
  kt_BadLetter_DoesNotComeBack : PySem.W.kitOne K (.ref C_BadLetter) (.ref C_DoesNotComeBack) = some false
  kt_BadLetter_TooLarge : PySem.W.kitOne K (.ref C_BadLetter) (.ref C_TooLarge) = some false
  kt_BadLetter_NotWritten : PySem.W.kitOne K (.ref C_BadLetter) (.ref C_NotWritten) = some false
  kt_BadLetter_NoSuchText : PySem.W.kitOne K (.ref C_BadLetter) (.ref C_NoSuchText) = some false
  kt_BadLetter_BadName : PySem.W.kitOne K (.ref C_BadLetter) (.ref C_BadName) = some false
  kt_BadLetter_NameTaken : PySem.W.kitOne K (.ref C_BadLetter) (.ref C_NameTaken) = some false
  kt_BadLetter_NoName : PySem.W.kitOne K (.ref C_BadLetter) (.ref C_NoName) = some false
  kt_BadLetter_EmptyRing : PySem.W.kitOne K (.ref C_BadLetter) (.ref C_EmptyRing) = some false
  kt_BadLetter_NotInLot : PySem.W.kitOne K (.ref C_BadLetter) (.ref C_NotInLot) = some false
  kt_BadLetter_BadBuild : PySem.W.kitOne K (.ref C_BadLetter) (.ref C_BadBuild) = some false
  kt_BadLetter_BadGrowth : PySem.W.kitOne K (.ref C_BadLetter) (.ref C_BadGrowth) = some false
  kt_BadLetter_EmptyText : PySem.W.kitOne K (.ref C_BadLetter) (.ref C_EmptyText) = some false
  kt_BadLetter_NothingToUndo : PySem.W.kitOne K (.ref C_BadLetter) (.ref C_NothingToUndo) = some false
  kt_BadLetter_NothingToRedo : PySem.W.kitOne K (.ref C_BadLetter) (.ref C_NothingToRedo) = some false
  kt_BadLetter_VE : PySem.W.kitOne K (.ref C_BadLetter) (.type "ValueError") = some true
  ex_BadLetter_BadAlphabet : PySem.W.exmOne K (.ref C_BadLetter) (.ref C_BadAlphabet) = some false
  ex_BadLetter_BadLetter : PySem.W.exmOne K (.ref C_BadLetter) (.ref C_BadLetter) = some true
end Ver
namespace Ver
open PySem PySem.Spec PyProof.Rows L2 Evl
section
variable {P : Program} {w : World} {K : PySem.W.Frag} {mg : Str → Option Value} {base : Heap} {C_Cut : Addr}
theorem has_digits (F : At K mg "_law_digits" s__law_digits) (T : Top K mg C_Cut) : Has P w K mg base "_law_digits" s__law_digits ["cell", "sizes"] 1 (spDigits K) := by
  obtain ⟨f, fd, F, m⟩ := F.ex
  refine ⟨f, fd, F, F.ok S__law_digits (fun vs H Q E h => ?_) (fun cdv A outer s H vs Q E hr h => ?_), F.binds fun _ _ _ _ _ _ us hl => match us, hl with | [_, _], _ => rfl, m, F.kp⟩
  · obtain ⟨c, a, ss, rfl, _⟩ := h
    rfl
  obtain ⟨c, a, ss, rfl, hS, hz, hss, q⟩ := h
  refine ⟨_, (pss_cons
    (ps_set (i := 2) S__law_digits.nd rfl (Or.inl rfl) (pe_lst pa_nil))
    (pss_cons
    (ps_set (i := 3) S__law_digits.nd rfl (Or.inl rfl) (pe_callTy call_int1 rfl T.z_int (by decide +kernel) (pa_cons (pv 0) pa_nil)))
    (pss_cons
    (ps_if (pt_cmpR op_ge (pv 3) (pe_op op_pow pe_int pe_int) (nomark _)) (pss_cons
    (ps_set (i := 3) S__law_digits.nd rfl (Or.inl rfl) (pe_op op_sub (pv 3) (pe_op op_pow pe_int pe_int)))
    (pss_cons
    (ps_for PassesOwn.never rfl (pi_list (pv 1)) (pg_name (i := 4) S__law_digits.nd rfl (Or.inl rfl)) (pss_cons
    (ps_expr (pe_bm PySem.F.plainAttrs_list PySem.F.slot_list_append PySem.F.type_list_append mt_append (pv 2) (pa_cons (pe_op op_mod (pe_callTy call_int1 rfl T.z_int (by decide +kernel) (pa_cons (pv 3) pa_nil)) (pv 4)) pa_nil)))
    (pss_one
    (ps_set (i := 3) S__law_digits.nd rfl (Or.inl rfl) (pe_op op_fdivW (pe_callTy call_int1 rfl T.z_int (by decide +kernel) (pa_cons (pv 3) pa_nil)) (pv 4))))))
    (pss_one
    (ps_ret (pv 2))))) pss_nil)
    (pss_cons
    (ps_set (i := 5) S__law_digits.nd rfl (Or.inl rfl) (pe_op op_mod (pe_callTy call_int1 rfl T.z_int (by decide +kernel) (pa_cons (pv 3) pa_nil)) pe_int))
    (pss_cons
    (ps_for PassesOwn.never rfl (pi_range1 rfl T.z_range (pa_cons (pe_callB call_len_seq rfl T.z_len PySem.boot_len (pa_cons (pv 1) pa_nil)) pa_nil)) (pg_name (i := 6) S__law_digits.nd rfl (Or.inl rfl)) (pss_cons
    (ps_set (i := 5) S__law_digits.nd rfl (Or.inl rfl) (pe_op op_mod (pe_callTy call_int1 rfl T.z_int (by decide +kernel) (pa_cons (pe_op op_add (pe_op op_add (pe_op op_mul (pv 5) pe_int) (pe_op op_mul pe_int (pv 6))) pe_int) pa_nil)) pe_int))
    (pss_cons
    (ps_set (i := 7) S__law_digits.nd rfl (Or.inl rfl) (pe_op op_mod (pe_callTy call_int1 rfl T.z_int (by decide +kernel) (pa_cons (pe_op op_mul (pv 5) (pe_op op_add (pe_op op_fdivW (pv 5) pe_int) pe_int)) pa_nil)) pe_int))
    (pss_one
    (ps_expr (pe_bm PySem.F.plainAttrs_list PySem.F.slot_list_append PySem.F.type_list_append mt_append (pv 2) (pa_cons (pe_op op_mod (pe_op op_fdivW (pv 7) pe_int) (pe_ix (r := rIxL K) ix_list (pv 1) (pv 6) (fun _ _ => rfl))) pa_nil)))))))
    (pss_one
    (ps_ret (pv 2)))))))), ?_⟩
  have hl : (((ss.map V.int).length : Nat) : Int) = (ss.length : Int) := by rw [List.length_map]
  have e18 : (10 : Int) ^ (18 : Int).toNat = 10 ^ 18 := rfl
  refine q_asgL (el_lst ea_nil (by decide)) fun p H1 hp e1 h1 => ?_
  refine q_asg (ev_int (ev_var rfl)) fun H2 e2 => ?_
  have hP : CPow 10 18 := ⟨by decide, by decide, by decide⟩
  refine q_when (et_is (et_ge (ev_var rfl) (ev_op ev_c ev_c (rv_I hP))) rfl) (fun hb H3 e3 => ?_) (fun hb H3 e3 => ?_)
  · have hc : 10 ^ 18 ≤ c := of_decide_eq_true hb
    refine q_asg (ev_sub (ev_var rfl) (ev_op ev_c ev_c (rv_I hP))) fun H4 e4 => ?_
    have e14 : Ex H H4 := ((e1.trans e2).trans e3).trans e4
    refine q_forLn (ev_var rfl) (ex_l e14 hS) (fun i σ' H' => (∃ u, σ' = [some (.int c), some (.ref a), some (.ref p), some (.int (restF c ss i)), u, none, none, none]) ∧ Ex H H' ∧ H' p = some (.lst (((List.range i).map (digA c ss)).map V.int))) ?_ ?_ ?_ ?_
    · intro H5 e5
      exact ⟨⟨none, rfl⟩, e14.trans e5, e5 _ _ (e4 _ _ (e3 _ _ (e2 _ _ h1)))⟩
    · intro i σ' H' _ z
      exact ex_l z.2.1 hS
    · intro i x σ' H' hx z
      obtain ⟨⟨u, rfl⟩, e5, h5⟩ := z
      obtain ⟨hi, rfl⟩ := at0_get hx
      obtain ⟨s1, s2⟩ := hss i hi
      refine q_app h5 (ev_var rfl) (ev_mod s1 (ev_int (ev_var rfl)) (ev_var rfl)) (by rw [List.length_map, List.length_map, List.length_range]; omega) fun H6 e6 => ?_
      refine s_asg (ev_div s1 s2 (ev_int (ev_var rfl)) (ev_var rfl)) fun H7 e7 => ⟨⟨some (.int (at0 ss i)), rfl⟩, ((e5.trans e6).mut hp).trans e7, ?_⟩
      rw [map_range_succ]
      exact e7 _ _ upd_same
    · intro σ' H' z
      obtain ⟨⟨u, rfl⟩, e5, h5⟩ := z
      rw [List.length_map] at h5
      refine s_ret (ev_var rfl) fun H6 e6 => ?_
      have e : digits c ss = (List.range ss.length).map (digA c ss) := by
        unfold digits
        refine List.map_congr_left fun i _ => ?_
        exact if_pos hc
      rw [e] at q
      exact q p H6 hp (e5.trans e6) (e6 _ _ h5)
  · have hc : ¬ 10 ^ 18 ≤ c := of_decide_eq_false hb
    refine q_asg (ev_mod (by decide) (ev_int (ev_var rfl)) ev_c) fun H4 e4 => ?_
    have e14 : Ex H H4 := ((e1.trans e2).trans e3).trans e4
    refine q_forR1 (ea_cons (ev_is (ev_cb (ea_cons (ev_var rfl) ea_nil) (rc_lenL (ex_l e14 hS))) (by rw [hl])) ea_nil) (by omega) (fun i σ' H' => (∃ u v, σ' = [some (.int c), some (.ref a), some (.ref p), some (.int c), none, some (.int (sdF c i)), u, v]) ∧ Ex H H' ∧ H' p = some (.lst (((List.range i).map (digB c ss)).map V.int))) ?_ ?_ ?_
    · intro H5 e5
      exact ⟨⟨none, none, rfl⟩, e14.trans e5, e5 _ _ (e4 _ _ (e3 _ _ (e2 _ _ h1)))⟩
    · intro i σ' H' hi z
      obtain ⟨⟨u, v, rfl⟩, e5, h5⟩ := z
      have hi' : i < ss.length := by omega
      obtain ⟨s1, s2⟩ := hss i hi'
      have b1 := sd_bound c (i + 1)
      refine q_asg (ev_mod (by decide) (ev_int (ev_add (ev_add (ev_mulR (by decide) (by decide) (ev_var rfl) ev_c) (ev_mulL (by decide) (by decide) ev_c (ev_var rfl))) ev_c)) ev_c) fun H6 e6 => ?_
      refine q_asg (ev_mod (by decide) (ev_int (ev_mulR (i := sdF c (i + 1)) (j := sdF c (i + 1) / 65537 + 3) (by omega) (by omega) (ev_var rfl) (ev_add (ev_div (by decide) (by decide) (ev_var rfl) ev_c) ev_c))) ev_c) fun H7 e7 => ?_
      refine s_app (e7 _ _ (e6 _ _ h5)) (ev_var rfl) (ev_mod s1 (ev_div (by decide) (by decide) (ev_var rfl) ev_c) (ev_at (ex_l ((e5.trans e6).trans e7) hS) hi' (ev_var rfl) (ev_var rfl))) (by rw [List.length_map, List.length_map, List.length_range]; omega) fun H8 e8 => ⟨⟨some (.int (i : Int)), some (.int (twF c i)), rfl⟩, (((e5.trans e6).trans e7).trans e8).mut hp, ?_⟩
      rw [map_range_succ]
      exact upd_same
    · intro σ' H' z
      obtain ⟨⟨u, v, rfl⟩, e5, h5⟩ := z
      refine s_ret (ev_var rfl) fun H6 e6 => ?_
      have e : digits c ss = (List.range ss.length).map (digB c ss) := by
        unfold digits
        refine List.map_congr_left fun i _ => ?_
        exact if_neg hc
      rw [e] at q
      exact q p H6 hp (e5.trans e6) (e6 _ _ h5)
end
end Ver
namespace Ver
open PySem PySem.Spec PyProof.Rows L2 Evl
section
variable {P : Program} {w : World} {K : PySem.W.Frag} {mg : Str → Option Value} {base : Heap} {C_Cut : Addr}
theorem has_cell (F : At K mg "_law_cell" s__law_cell) (T : Top K mg C_Cut) : Has P w K mg base "_law_cell" s__law_cell ["script", "k"] 1 (spCell K) := by
  obtain ⟨f, fd, F, m⟩ := F.ex
  refine ⟨f, fd, F, F.ok S__law_cell (fun vs H Q E h => ?_) (fun cdv A outer s H vs Q E hr h => ?_), F.binds fun _ _ _ _ _ _ us hl => match us, hl with | [_, _], _ => rfl, m, F.kp⟩
  · obtain ⟨a, ns, k, rfl, _⟩ := h
    rfl
  obtain ⟨a, ns, k, rfl, hS, h63, hk, q⟩ := h
  refine ⟨_, (pss_cons
    (ps_if (pt_cmpR op_lt (pv 1) (pe_callB call_len_seq rfl T.z_len PySem.boot_len (pa_cons (pv 0) pa_nil)) (nomark _)) (pss_one
    (ps_ret (pe_ix (r := rIxL K) ix_list (pv 0) (pv 1) (fun _ _ => rfl)))) pss_nil)
    (pss_cons
    (ps_set (i := 2) S__law_cell.nd rfl (Or.inl rfl) pe_int)
    (pss_cons
    (ps_for PassesOwn.never rfl (pi_list (pv 0)) (pg_name (i := 3) S__law_cell.nd rfl (Or.inl rfl)) (pss_one
    (ps_set (i := 2) S__law_cell.nd rfl (Or.inl rfl) (pe_op op_mod (pe_callTy call_int1 rfl T.z_int (by decide +kernel) (pa_cons (pe_op op_add (pe_op op_mul (pv 2) pe_int) (pe_op op_mod (pe_callTy call_int1 rfl T.z_int (by decide +kernel) (pa_cons (pv 3) pa_nil)) pe_int)) pa_nil)) pe_int))))
    (pss_one
    (ps_ret (pe_op op_mod (pe_callTy call_int1 rfl T.z_int (by decide +kernel) (pa_cons (pe_op op_mul (pe_op op_mul (pe_op op_add (pv 2) pe_int) (pe_op op_add (pv 1) pe_int)) pe_int) pa_nil)) pe_int)))))), ?_⟩
  have hl : (((ns.map V.int).length : Nat) : Int) = (ns.length : Int) := by rw [List.length_map]
  refine q_when (et_is (et_lt (ev_var rfl) (ev_is (ev_cb (ea_cons (ev_var rfl) ea_nil) (rc_lenL hS)) (by rw [hl]))) rfl) (fun hb H1 e1 => ?_) (fun hb H1 e1 => ?_)
  · have hlt : k < (ns.length : Int) := of_decide_eq_true hb
    have ek : k = ((k.toNat : Nat) : Int) := by omega
    refine s_ret (ev_at (ex_l e1 hS) (show k.toNat < ns.length by omega) (ev_var rfl) (ev_is (ev_var rfl) (by rw [← ek]))) fun H2 e2 => ?_
    have e : cell ns k = at0 ns k.toNat := if_pos hlt
    rw [e] at q
    exact q H2 (e1.trans e2)
  · have hlt : ¬ k < (ns.length : Int) := of_decide_eq_false hb
    refine q_asg ev_c fun H2 e2 => ?_
    refine q_forLn (ev_var rfl) (ex_l (e1.trans e2) hS) (fun i σ' H' => (∃ u, σ' = [some (.ref a), some (.int k), some (.int (seedF ns i)), u]) ∧ Ex H H') ?_ ?_ ?_ ?_
    · intro H3 e3
      exact ⟨⟨none, rfl⟩, (e1.trans e2).trans e3⟩
    · intro i σ' H' _ p
      exact ex_l p.2 hS
    · intro i x σ' H' hx p
      obtain ⟨⟨u, rfl⟩, e3⟩ := p
      obtain ⟨hi, rfl⟩ := at0_get hx
      refine s_asg (ev_mod (by decide) (ev_int (ev_add (ev_mulR (by decide) (by decide) (ev_var rfl) ev_c) (ev_mod (by decide) (ev_int (ev_var rfl)) ev_c))) ev_c) fun H4 e4 => ⟨⟨some (.int (at0 ns i)), rfl⟩, e3.trans e4⟩
    · intro σ' H' p
      obtain ⟨⟨u, rfl⟩, e3⟩ := p
      rw [List.length_map]
      refine s_ret (ev_mod (by decide) (ev_int (ev_mulR (by decide) (by decide) (ev_mulR (by omega) (by omega) (ev_add (ev_var rfl) ev_c) (ev_add (ev_var rfl) ev_c)) ev_c)) ev_c) fun H4 e4 => ?_
      have e : cell ns k = ((seedF ns ns.length + 7) * (k + 3) * 69621) % 2147483647 := if_neg hlt
      rw [e] at q
      exact q H4 (e3.trans e4)
end
end Ver
namespace Ver
open PySem PySem.Spec PyProof.Rows L2 Evl
/-! ### _law_signs -/
def figs : List Nat := [48, 49, 50, 51, 52, 53, 54, 55, 56, 57, 97, 98, 99, 100, 101, 102, 103, 104, 105, 106, 107, 108, 109, 110, 111, 112, 113, 114, 115, 116, 117, 118, 119, 120, 121, 122]
theorem figs_is : Str.ofString "0123456789abcdefghijklmnopqrstuvwxyz" = SX.S figs := by decide +kernel
theorem mt_is : Str.ofString "" = SX.S [] := by decide +kernel
theorem figs_let : ∀ c ∈ figs, (48 ≤ c ∧ c ≤ 57) ∨ (97 ≤ c ∧ c ≤ 122) := by decide +kernel
theorem figs_nd : figs.Nodup := by decide +kernel
theorem figs_at {i : Nat} (h : i < 36) : figs[i]? = some (figs.getD i 0) := by
  have : figs.length = 36 := rfl
  rw [List.getD_eq_getElem?_getD, List.getElem?_eq_getElem (by omega)]
  rfl
theorem figs_mem {i : Nat} (h : i < 36) : figs.getD i 0 ∈ figs := List.mem_of_getElem? (figs_at h)
theorem inV_one {c : Nat} {cs : List Nat} : inV (tx [c]) (cs.map fun c => tx [c]) = decide (c ∈ cs) := by
  unfold inV
  induction cs with
  | nil => rfl
  | cons d r ih =>
    rw [List.map_cons, List.any_cons, ih]
    show ((SX.S [d] == SX.S [c]) || decide (c ∈ r)) = _
    rw [SX.S_beq_eq, Bool.eq_iff_iff, Bool.or_eq_true, decide_eq_true_eq, decide_eq_true_eq, decide_eq_true_eq, List.mem_cons]
    constructor
    · rintro (h | h)
      · exact .inl (List.cons.inj h).1.symm
      · exact .inr h
    · rintro (h | h)
      · exact .inl (by rw [h])
      · exact .inr h
theorem flat_ones (cs : List Nat) : (cs.map fun c => tx [c]).all flatV = true := by
  induction cs with
  | nil => rfl
  | cons d r ih =>
    rw [List.map_cons, List.all_cons, ih]
    rfl
theorem rising_ones : ∀ (p : Nat) (cs : List Nat), risingS (SX.S [p]) (cs.map fun c => SX.S [c]) = true → (p :: cs).Pairwise (· ≤ ·)
  | p, [], _ => List.pairwise_singleton _ _
  | p, c :: r, h => by
    have h2 : (!ltCps [c] [p] && risingS (SX.S [c]) (r.map fun c => SX.S [c])) = true := h
    rw [Bool.and_eq_true, Bool.not_eq_true'] at h2
    have ih := rising_ones c r h2.2
    have hpc : p ≤ c := by
      have e : ltCps [c] [p] = (decide (c < p) || (c == p && ltCps [] [])) := rfl
      rw [e, Bool.or_eq_false_iff] at h2
      have := of_decide_eq_false h2.1.1
      omega
    refine List.pairwise_cons.mpr ⟨fun x hx => ?_, ih⟩
    rcases List.mem_cons.mp hx with rfl | hx
    · exact hpc
    · exact Nat.le_trans hpc ((List.pairwise_cons.mp ih).1 x hx)
theorem sorted_ones : ∀ (cs : List Nat), sortedS (cs.map fun c => SX.S [c]) = true → cs.Pairwise (· ≤ ·)
  | [], _ => List.Pairwise.nil
  | c :: r, h => rising_ones c r h
theorem flat_sing (cs : List Nat) : (cs.map fun c => [c]).flatten = cs := by
  induction cs with
  | nil => rfl
  | cons d r ih =>
    rw [List.map_cons, List.flatten_cons, ih]
    rfl
/-- the sorted signs of a list of different ones -/
theorem sorted_signs {cs : List Nat} {ys : List Str} (nd : cs.Nodup) (hp : ys.Perm (cs.map fun c => SX.S [c])) (hs : sortedS ys = true) : ∃ ds : List Nat, ys = ds.map (fun c => SX.S [c]) ∧ ds.Perm cs ∧ ds.Pairwise (· < ·) := by
  let g : Str → Nat := fun s => s.cps.toList.headD 0
  have hy : ys = (ys.map g).map fun c => SX.S [c] := by
    rw [List.map_map]
    refine (List.map_id' ys).symm.trans ?_ |> fun h => h
    refine List.map_congr_left fun y hm => ?_
    have := hp.mem_iff.mp hm
    obtain ⟨c, _, rfl⟩ := List.mem_map.mp this
    rfl
  have hd : (ys.map g).Perm cs := by
    have := hp.map g
    rw [List.map_map] at this
    have e : cs.map (g ∘ fun c => SX.S [c]) = cs := by
      conv => rhs; rw [← List.map_id' cs]
      exact List.map_congr_left fun _ _ => rfl
    rw [e] at this
    exact this
  refine ⟨ys.map g, hy, hd, ?_⟩
  have hle := sorted_ones (ys.map g) (by rw [← hy]; exact hs)
  have hnd := (hd.nodup_iff).mpr nd
  have := hle.and hnd
  exact this.imp fun h => Nat.lt_of_le_of_ne h.1 h.2
theorem s_retJoinX {K : PySem.W.Frag} {σ : L2.St} {H : Hp} {D : Ends} {te : TE} (h : te σ H fun y H2 => rJoin K (.str (Str.ofString "")) [y] H2 D.rt) : tRet (tM1 (rJoin K) (tC (.str (Str.ofString ""))) te) D σ H := ⟨⟨_, rfl⟩, h⟩
def manyOf (r0 : Int) : Int := at0 [2, 2, 2, 2, 3, 3, 3, 1, 4, 5, 6, 2] r0.toNat
section
variable {P : Program} {w : World} {K : PySem.W.Frag} {mg : Str → Option Value} {base : Heap} {C_Cut : Addr}
def spSigns (K : PySem.W.Frag) : Sp := fun vs H Q _ => ∃ (a : Addr) (r : List Int), vs = [.ref a] ∧ SqL K H a (r.map V.int) ∧ 7 ≤ r.length ∧ (0 ≤ at0 r 0 ∧ at0 r 0 < 12) ∧ ∀ al, Alf al → RetV (tx al) H Q
theorem has_signs (F : At K mg "_law_signs" s__law_signs) (T : Top K mg C_Cut) : Has P w K mg base "_law_signs" s__law_signs ["row"] 1 (spSigns K) := by
  obtain ⟨f, fd, F, m⟩ := F.ex
  refine ⟨f, fd, F, F.ok S__law_signs (fun vs H Q E h => ?_) (fun cdv A outer s H vs Q E hr h => ?_), F.binds fun _ _ _ _ _ _ us hl => match us, hl with | [_], _ => rfl, m, F.kp⟩
  · obtain ⟨a, r, rfl, _⟩ := h
    rfl
  obtain ⟨a, r, rfl, hR, hl, b0, q⟩ := h
  refine ⟨_, (pss_cons
    (ps_set (i := 1) S__law_signs.nd rfl (Or.inl rfl) (pe_ix (r := rIxL K) ix_list (pe_lst (pa_cons pe_int (pa_cons pe_int (pa_cons pe_int (pa_cons pe_int (pa_cons pe_int (pa_cons pe_int (pa_cons pe_int (pa_cons pe_int (pa_cons pe_int (pa_cons pe_int (pa_cons pe_int (pa_cons pe_int pa_nil))))))))))))) (pe_ix (r := rIxL K) ix_list (pv 0) pe_int (fun _ _ => rfl)) (fun _ _ => rfl)))
    (pss_cons
    (ps_set (i := 2) S__law_signs.nd rfl (Or.inl rfl) pe_str)
    (pss_cons
    (ps_set (i := 3) S__law_signs.nd rfl (Or.inl rfl) (pe_lst pa_nil))
    (pss_cons
    (ps_for PassesOwn.never rfl (pi_range1 rfl T.z_range (pa_cons (pv 1) pa_nil)) (pg_name (i := 4) S__law_signs.nd rfl (Or.inl rfl)) (pss_cons
    (ps_set (i := 5) S__law_signs.nd rfl (Or.inl rfl) (pe_op op_mod (pe_callTy call_int1 rfl T.z_int (by decide +kernel) (pa_cons (pe_ix (r := rIxL K) ix_list (pv 0) (pe_op op_add pe_int (pv 4)) (fun _ _ => rfl)) pa_nil)) pe_int))
    (pss_cons
    (ps_for PassesOwn.never rfl (pi_range1 rfl T.z_range (pa_cons pe_int pa_nil)) (pg_name (i := 6) S__law_signs.nd rfl (Or.inl rfl)) (pss_one
    (ps_if (pt_cmpR op_in_seq (pe_ix ix_str (pv 2) (pv 5) (fun _ _ => rfl)) (pv 3) rfl) (pss_one
    (ps_set (i := 5) S__law_signs.nd rfl (Or.inl rfl) (pe_op op_mod (pe_callTy call_int1 rfl T.z_int (by decide +kernel) (pa_cons (pe_op op_add (pv 5) pe_int) pa_nil)) pe_int))) pss_nil)))
    (pss_one
    (ps_expr (pe_bm PySem.F.plainAttrs_list PySem.F.slot_list_append PySem.F.type_list_append mt_append (pv 3) (pa_cons (pe_ix ix_str (pv 2) (pv 5) (fun _ _ => rfl)) pa_nil)))))))
    (pss_one
    (ps_ret (pe_join pe_str (pe_callB cr_sortedS rfl T.z_sorted (by decide +kernel) (pa_cons (pv 3) pa_nil))))))))), ?_⟩
  obtain ⟨i0, hi0, e0⟩ : ∃ i : Nat, i < 12 ∧ at0 r 0 = (i : Int) := ⟨(at0 r 0).toNat, by omega, by omega⟩
  have km : ∀ i : Nat, i < 12 → ∃ n : Nat, 1 ≤ n ∧ n ≤ 6 ∧ at0 [2, 2, 2, 2, 3, 3, 3, 1, 4, 5, 6, 2] i = (n : Int) := by
    intro i hi
    have k : ∀ i : Nat, i < 12 → 1 ≤ at0 [2, 2, 2, 2, 3, 3, 3, 1, 4, 5, 6, 2] i ∧ at0 [2, 2, 2, 2, 3, 3, 3, 1, 4, 5, 6, 2] i ≤ 6 := by decide +kernel
    obtain ⟨k1, k2⟩ := k i hi
    exact ⟨(at0 [2, 2, 2, 2, 3, 3, 3, 1, 4, 5, 6, 2] i).toNat, by omega, by omega, by omega⟩
  obtain ⟨n, n1, n6, en⟩ := km i0 hi0
  refine q_asg (v := .int (n : Int)) ?_ fun H1 e1 => ?_
  · refine ev_opL1 (xs := [2, 2, 2, 2, 3, 3, 3, 1, 4, 5, 6, 2].map V.int) (y := .int (i0 : Int)) (el_lst (ea_cons ev_c (ea_cons ev_c (ea_cons ev_c (ea_cons ev_c (ea_cons ev_c (ea_cons ev_c (ea_cons ev_c (ea_cons ev_c (ea_cons ev_c (ea_cons ev_c (ea_cons ev_c (ea_cons ev_c ea_nil)))))))))))) (by show 12 ≤ 100000; decide)) (fun H1 e1 => ev_is (ev_atI (ex_l e1 hR) (i := 0) (by omega) rfl (ev_var rfl) ev_c) (by rw [e0])) (fun p H3 h3 e3 => rv_ixL (sq_of h3) ?_)
    rw [← en]
    exact at_int (ns := [2, 2, 2, 2, 3, 3, 3, 1, 4, 5, 6, 2]) hi0
  refine q_asg (v := tx figs) (ev_is ev_c (by rw [figs_is])) fun H2 e2 => ?_
  refine q_asgL (xs := []) (el_lst ea_nil (by decide)) fun l H3 hl3 e3 g3 => ?_
  have e13 := (e1.trans e2).trans e3
  have hl0 : H l = none := fresh_back (e1.trans e2) hl3
  refine q_forR1 (ea_cons (ev_var rfl) ea_nil) (by omega) (fun i σ' H' => (∃ u4 u5 u6, σ' = [some (.ref a), some (.int (n : Int)), some (tx figs), some (.ref l), u4, u5, u6]) ∧ Ex H H' ∧ ∃ cs : List Nat, H' l = some (.lst (cs.map fun c => tx [c])) ∧ cs.length = i ∧ cs.Nodup ∧ ∀ c ∈ cs, c ∈ figs) ?_ ?_ ?_
  · intro H4 e4
    exact ⟨⟨none, none, none, rfl⟩, e13.trans e4, [], e4 _ _ g3, rfl, List.nodup_nil, fun c h => (by cases h)⟩
  · intro i σ' H' hi z
    obtain ⟨⟨u4, u5, u6, rfl⟩, e4, cs, g4, hcl, nd, sub⟩ := z
    have hi6 : i < 6 := by omega
    obtain ⟨a0, ha0, ea0⟩ : ∃ k : Nat, k < 36 ∧ at0 r (1 + i) % 36 = (k : Int) := ⟨(at0 r (1 + i) % 36).toNat, by omega, by omega⟩
    refine q_asg (v := .int (a0 : Int)) (ev_is (ev_mod (by decide) (ev_int (ev_atI (ex_l e4 hR) (i := 1 + i) (by omega) (by omega) (ev_var rfl) (ev_add ev_c (ev_var rfl)))) ev_c) (by rw [ea0])) fun H4 e5 => ?_
    have g5 := e5 _ _ g4
    refine q_forR1 (ea_cons ev_c ea_nil) (by decide) (fun t σ' H' => (∃ (k : Nat) (u6 : Option V), σ' = [some (.ref a), some (.int (n : Int)), some (tx figs), some (.ref l), some (.int (i : Int)), some (.int (k : Int)), u6] ∧ k < 36 ∧ (figs.getD k 0 ∉ cs ∨ k = (a0 + t) % 36 ∧ ∀ s, s < t → figs.getD ((a0 + s) % 36) 0 ∈ cs)) ∧ Ex H4 H') ?_ ?_ ?_
    · intro H5 e6
      exact ⟨⟨a0, u6, rfl, ha0, .inr ⟨by omega, fun s hs => absurd hs (Nat.not_lt_zero _)⟩⟩, e6⟩
    · intro t σ' H' ht z
      obtain ⟨⟨k, u6, rfl, hk, hz⟩, e6⟩ := z
      refine s_when (et_test (ev_op (ev_ixS (by decide) (figs_at hk) (ev_var rfl) (ev_var rfl)) (ev_var rfl) (rv_isL (sq_of (e6 _ _ g5)) rfl (flat_ones cs)))) (fun hb H5 e7 => ?_) (fun hb H5 e7 => ?_)
      · rw [inV_one] at hb
        have hin := of_decide_eq_true hb
        obtain ⟨k2, hk2, ek2⟩ : ∃ k2 : Nat, k2 < 36 ∧ ((k : Int) + 1) % 36 = (k2 : Int) := ⟨(k + 1) % 36, by omega, by omega⟩
        refine s_asg (v := .int (k2 : Int)) (ev_is (ev_mod (by decide) (ev_int (ev_add (ev_var rfl) ev_c)) ev_c) (by rw [ek2])) fun H6 e8 => ⟨⟨k2, _, rfl, hk2, ?_⟩, (e6.trans e7).trans e8⟩
        rcases hz with hz | ⟨hz1, hz2⟩
        · exact absurd hin hz
        · refine .inr ⟨by omega, fun s hs => ?_⟩
          by_cases c : s < t
          · exact hz2 s c
          · have : s = t := by omega
            rw [this, ← hz1]
            exact hin
      · rw [inV_one] at hb
        have hout := of_decide_eq_false hb
        exact ⟨⟨k, _, rfl, hk, .inl hout⟩, e6.trans e7⟩
    · intro σ' H' z
      obtain ⟨⟨k, u6, rfl, hk, hz⟩, e6⟩ := z
      have hout : figs.getD k 0 ∉ cs := by
        rcases hz with hz | ⟨_, hz2⟩
        · exact hz
        · exfalso
          have := nodup_sub figs cs figs_nd fun x hx => by
            obtain ⟨j, hj, ej⟩ := List.mem_iff_getElem.mp hx
            have hj36 : j < 36 := hj
            have h2 := hz2 ((j + 36 - a0) % 36) (by show _ < 36; omega)
            have e9 : (a0 + (j + 36 - a0) % 36) % 36 = j := by omega
            rw [e9, List.getD_eq_getElem?_getD, List.getElem?_eq_getElem hj] at h2
            rw [← ej]
            exact h2
          have h36 : figs.length = 36 := rfl
          omega
      refine s_app (e6 _ _ g5) (ev_var rfl) (ev_ixS (by decide) (figs_at hk) (ev_var rfl) (ev_var rfl)) (by rw [List.length_map]; omega) fun H5 e7 => ⟨⟨_, _, _, rfl⟩, ((e4.trans e5).trans (e6.trans e7)).mut hl0, cs ++ [figs.getD k 0], ?_, by rw [List.length_append, hcl]; rfl, List.nodup_append.mpr ⟨nd, by simp, fun x hx y hy e => hout (by rw [← List.mem_singleton.mp hy, ← e]; exact hx)⟩, fun c hc => ?_⟩
      · rw [List.map_append]
        exact upd_same
      · rcases List.mem_append.mp hc with hc | hc
        · exact sub c hc
        · rw [List.mem_singleton.mp hc]
          exact figs_mem hk
  · intro σ' H' z
    obtain ⟨⟨u4, u5, u6, rfl⟩, e4, cs, g4, hcl, nd, sub⟩ := z
    rw [Int.toNat_natCast] at hcl
    have hms : (cs.map fun c => tx [c]) = (cs.map fun c => SX.S [c]).map V.str := by
      rw [List.map_map]
      rfl
    refine s_retJoinX ⟨_, rfl, l, cs.map (fun c => SX.S [c]), rfl, sq_of (by rw [← hms]; exact g4), by rw [List.length_map]; omega, fun ys p hp hs hpn => ?_⟩
    rw [mt_is]
    obtain ⟨ds, rfl, hdp, hda⟩ := sorted_signs nd hp hs
    have hdl := hdp.length_eq
    have hA : Alf ds := ⟨hda, by omega, by omega, fun c hc => figs_let c (sub c (hdp.mem_iff.mp hc))⟩
    have ej : (ds.map fun c => SX.S [c]) = (ds.map fun c => [c]).map SX.S := by
      rw [List.map_map]
      rfl
    have hfl : (ds.map fun c => [c]).flatten.length ≤ 100000 := by
      rw [flat_sing]
      omega
    refine join_ok (ps := ds.map fun c => [c]) (K := K) (.inl (sq_of (by rw [map_tx, ← ej]; exact upd_same))) hfl ?_
    rw [flat_sing]
    exact q ds hA _ (e4.trans (Ex.new hpn))
theorem Alf.ex {al : List Nat} (h : Alf al) (i : Nat) : al[i % al.length]? = some (al.getD (i % al.length) 0) ∧ al.getD (i % al.length) 0 ∈ al := by
  have hl : i % al.length < al.length := Nat.mod_lt _ h.pos
  have e : al[i % al.length]? = some (al.getD (i % al.length) 0) := by
    rw [List.getD_eq_getElem?_getD, List.getElem?_eq_getElem hl]
    rfl
  exact ⟨e, List.mem_of_getElem? e⟩
/-! ### _law_plain_word -/
def fwF (al : List Nat) (r : List Int) (k : Nat) : Nat := al.getD (at0 r k % (al.length : Int)).toNat 0
def fwL (al : List Nat) (r : List Int) (n : Nat) : List Nat := (List.range n).map (fwF al r)
def spFw (K : PySem.W.Frag) : Sp := fun vs H Q _ => ∃ (al : List Nat) (a : Addr) (r : List Int) (n : Nat), vs = [tx al, .ref a, .int (n : Int)] ∧ Alf al ∧ SqL K H a (r.map V.int) ∧ n ≤ r.length ∧ n ≤ 400 ∧ RetV (tx (fwL al r n)) H Q
theorem int_mod {x : Int} {n : Nat} (hn : 0 < n) : ∃ k : Nat, k < n ∧ x % (n : Int) = (k : Int) := by
  have h1 := Int.emod_nonneg x (show (n : Int) ≠ 0 by omega)
  have h2 := Int.emod_lt_of_pos x (show 0 < (n : Int) by omega)
  exact ⟨(x % (n : Int)).toNat, by omega, by omega⟩
theorem fwF_ok {al : List Nat} (h : Alf al) (r : List Int) (k : Nat) : fwF al r k ∈ al ∧ ∃ i : Nat, at0 r k % (al.length : Int) = (i : Int) ∧ al[i]? = some (fwF al r k) := by
  obtain ⟨i, hi, e⟩ := int_mod (x := at0 r k) h.pos
  have e2 : fwF al r k = al.getD i 0 := by
    unfold fwF
    rw [e, Int.toNat_natCast]
  have e3 : al[i]? = some (al.getD i 0) := by
    rw [List.getD_eq_getElem?_getD, List.getElem?_eq_getElem hi]
    rfl
  rw [e2]
  exact ⟨List.mem_of_getElem? e3, i, e, e3⟩
theorem has_fw (F : At K mg "_law_plain_word" s__law_plain_word) (T : Top K mg C_Cut) : Has P w K mg base "_law_plain_word" s__law_plain_word ["signs", "row", "most"] 1 (spFw K) := by
  obtain ⟨f, fd, F, m⟩ := F.ex
  refine ⟨f, fd, F, F.ok S__law_plain_word (fun vs H Q E h => ?_) (fun cdv A outer s H vs Q E hr h => ?_), F.binds fun _ _ _ _ _ _ us hl => match us, hl with | [_, _, _], _ => rfl, m, F.kp⟩
  · obtain ⟨al, a, r, n, rfl, _⟩ := h
    rfl
  obtain ⟨al, a, r, n, rfl, hA, hR, hn, hz, q⟩ := h
  refine ⟨_, (pss_one
    (ps_ret (pe_join pe_str (pe_lc (own := [("k", 3)]) (g := gName 3) (tt := tYes) rfl S__law_plain_word.nd (pi_range1 rfl T.z_range (pa_cons (pv 2) pa_nil)) (blkOk_by (N := N__law_plain_word) (sc := defScope s__law_plain_word) (by decide +kernel)) (fun _ _ _ _ _ => pg_name (i := 3) S__law_plain_word.nd rfl (Or.inl rfl)) (fun _ _ _ _ _ => pts_nil) (fun _ _ _ _ _ => (pe_ix ix_str (pv 0) (pe_op op_mod (pe_callTy call_int1 rfl T.z_int (by decide +kernel) (pa_cons (pe_ix (r := rIxL K) ix_list (pv 1) (pv 3) (fun _ _ => rfl)) pa_nil)) (pe_callB call_len_str rfl T.z_len PySem.boot_len (pa_cons (pv 0) pa_nil))) (fun _ _ => rfl))))))), ?_⟩
  have h6 := hA.six
  have efl : ((List.range n).map fun k => [fwF al r k]).flatten = fwL al r n := by
    rw [show (fun k => [fwF al r k]) = (fun c => [c]) ∘ fwF al r from rfl, ← List.map_map, flat_sing]
    rfl
  refine s_ret (v := tx (fwL al r n)) (ev_is (ev_joinL (ps := (List.range n).map fun k => [fwF al r k]) (ev_is ev_c (by rw [mt_is])) ?_ ?_) (by rw [efl])) q
  · have g := el_lcR1 (j := 3) (vs := [3]) (σ := [some (tx al), some (.ref a), some (.int (n : Int)), none]) (H := H) (ta := tCons (tVar 2) tNil) (n := (n : Int)) (t := tYes) (fun _ => true) (fun i => tx [fwF al r i])
      (te := tOp rIxS (tVar 0) (tOp (rI (fun _ j => 0 < j) fun i j => .int (i % j)) (tCB (fun xs H Q => (∃ i, xs = [V.int i] ∧ Q (V.int i) H) ∨ ∃ k, xs = [V.bl k] ∧ Q (V.int (if k = true then 1 else 0)) H) (tCons (tOp (rIxL K) (tVar 1) (tVar 3)) tNil)) (tCB (fun vs H Q => ∃ z : Str, vs = [.str z] ∧ z.length ≤ sizeLine ∧ Q (.int (z.length : Int)) H) (tCons (tVar 0) tNil))))
      (ea_cons (ev_var rfl) ea_nil) (by omega) (fun x => rfl) (fun i H1 e1 hi => et_yes) (fun i H1 e1 hi _ => ?_)
    · rw [Int.toNat_natCast, given_all] at g
      rw [List.map_map]
      exact g
    · obtain ⟨_, k, ek, hk⟩ := fwF_ok hA r i
      exact ev_ixS (i := k) (by omega) hk (ev_var rfl) (ev_is (ev_mod (j := (al.length : Int)) (by have := hA.pos; omega) (ev_int (ev_at (ex_l e1 hR) (by omega) (ev_var rfl) (ev_var rfl))) (ev_lenS (by omega) (ev_var rfl))) (by rw [ek]))
  · rw [efl]
    unfold fwL
    rw [List.length_map, List.length_range]
    omega
theorem fwL_len {al : List Nat} {r : List Int} {n : Nat} : (fwL al r n).length = n := by
  unfold fwL
  rw [List.length_map, List.length_range]
theorem fwL_over {al : List Nat} (h : Alf al) {r : List Int} {n : Nat} : ∀ c ∈ fwL al r n, c ∈ al := fun c hc => by
  obtain ⟨k, _, rfl⟩ := List.mem_map.mp hc
  exact (fwF_ok h r k).1
theorem sv_fw {al : List Nat} {a : Addr} {r : List Int} {n : Nat} {H : Hp} (hA : Alf al) (hR : SqL K H a (r.map V.int)) (hn : n ≤ r.length) (hz : n ≤ 400) : SpV (spFw K) ([tx al, .ref a, .int (n : Int)] ++ []) H (tx (fwL al r n)) := fun _ e _ q _ => ⟨al, a, r, n, rfl, hA, ex_l e hR, hn, hz, q⟩
end
end Ver
namespace Ver
open PySem PySem.Spec PyProof.Rows L2 Evl
theorem flat_len {gs : List (List Nat)} {n : Nat} (h : ∀ g ∈ gs, g.length = n) : gs.flatten.length = gs.length * n := by
  induction gs with
  | nil => simp
  | cons g r ih =>
    rw [List.flatten_cons, List.length_append, ih fun x hx => h x (List.mem_cons_of_mem _ hx), h g (List.mem_cons_self ..), List.length_cons, Nat.add_mul, Nat.one_mul, Nat.add_comm]
theorem flat_over {al : List Nat} {gs : List (List Nat)} (h : ∀ g ∈ gs, ∀ c ∈ g, c ∈ al) : ∀ c ∈ gs.flatten, c ∈ al := fun c hc => by
  obtain ⟨g, hg, hc2⟩ := List.mem_flatten.mp hc
  exact h g hg c hc2
theorem mul_le_of {a b c : Nat} (hb : 1 ≤ b) (h : a * b ≤ c) : a ≤ c := by
  have : a * 1 ≤ a * b := Nat.mul_le_mul_left _ hb
  omega
section
variable {P : Program} {w : World} {K : PySem.W.Frag} {mg : Str → Option Value} {base : Heap} {C_Cut : Addr}
section
variable {σ : L2.St} {H : Hp} {ta tb tl te : TE} {tz : TS} {D : Ends}
theorem el_catR {xs ys : List V} {a : Addr} (ha : Ev ta σ H (.ref a)) (hx : H a = some (.lst xs)) (hb : EvL tb σ H ys) (hz : xs.length + ys.length ≤ 100000) : EvL (tOp rCat ta tb) σ H (xs ++ ys) := fun H1 e Q q =>
  ha H1 e _ fun H2 e2 => hb H2 (e.trans e2) _ fun p2 H3 hp2 e3 h3 =>
    ⟨a, p2, xs, ys, rfl, rfl, ((e.trans e2).trans e3) _ _ hx, h3, sz_of hz, fun l hl => q l _ (fresh_back (e2.trans e3) hl) ((e2.trans e3).trans (Ex.new hl)) upd_same⟩
theorem s_retCall {sp : Sp} {tp : TA} {vs dvs : List V} {E : XK} (h : EvA tp σ H vs) (k : ∀ H1, Ex H H1 → sp (vs ++ dvs) H1 (fun x H2 => D.rt x H2) E) : tRet (tCall sp dvs E tp) D σ H := h H (Ex.refl H) _ k
end
/-! ### _law_counting_word -/
def spCw : Sp := fun vs H Q _ => ∃ (al : List Nat) (m : Nat), vs = [tx al, .int (m : Int)] ∧ Alf al ∧ m ≤ 400 ∧ ∀ v, Word al m v → RetV (tx v) H Q
theorem has_cw (F : At K mg "_law_counting_word" s__law_counting_word) (T : Top K mg C_Cut) : Has P w K mg base "_law_counting_word" s__law_counting_word ["signs", "most"] 1 spCw := by
  obtain ⟨f, fd, F, m⟩ := F.ex
  refine ⟨f, fd, F, F.ok S__law_counting_word (fun vs H Q E h => ?_) (fun cdv A outer s H vs Q E hr h => ?_), F.binds fun _ _ _ _ _ _ us hl => match us, hl with | [_, _], _ => rfl, m, F.kp⟩
  · obtain ⟨al, n, rfl, _⟩ := h
    rfl
  obtain ⟨al, n, rfl, hA, hn, q⟩ := h
  refine ⟨_, (pss_cons
    (ps_set (i := 2) S__law_counting_word.nd rfl (Or.inl rfl) pe_str)
    (pss_cons
    (ps_set (i := 3) S__law_counting_word.nd rfl (Or.inl rfl) (pe_lst (pa_cons pe_str pa_nil)))
    (pss_cons
    (ps_for PassesOwn.never rfl (pi_range1 rfl T.z_range (pa_cons pe_int pa_nil)) (pg_name (i := 4) S__law_counting_word.nd rfl (Or.inl rfl)) (pss_cons
    (ps_if (pt_cmpR op_ge (pe_callB call_len_str rfl T.z_len PySem.boot_len (pa_cons (pv 2) pa_nil)) (pv 1) (nomark _)) (pss_one
    ps_break) pss_nil)
    (pss_cons
    (ps_set (i := 5) S__law_counting_word.nd rfl (Or.inl rfl) (pe_lst pa_nil))
    (pss_cons
    (ps_for PassesOwn.never rfl (pi_list (pv 3)) (pg_name (i := 6) S__law_counting_word.nd rfl (Or.inr rfl)) (pss_one
    (ps_if (pt_cmpR op_lt (pe_op op_add (pe_callB call_len_str rfl T.z_len PySem.boot_len (pa_cons (pv 2) pa_nil)) (pe_op op_mul (pe_callB call_len_seq rfl T.z_len PySem.boot_len (pa_cons (pv 5) pa_nil)) (pe_op op_add (pe_callB call_len_str rfl T.z_len PySem.boot_len (pa_cons (pv 6) pa_nil)) pe_int))) (pe_op op_add (pv 1) (pe_op op_mul pe_int (pe_op op_add (pe_callB call_len_str rfl T.z_len PySem.boot_len (pa_cons (pv 6) pa_nil)) pe_int))) (nomark _)) (pss_one
    (ps_set (i := 5) S__law_counting_word.nd rfl (Or.inl rfl) (pe_op op_cat (pv 5) (pe_lc (own := [("letter", 7)]) (g := gName 7) (tt := tYes) rfl S__law_counting_word.nd (pi_str (pv 0)) (blkOk_by (N := N__law_counting_word) (sc := defScope s__law_counting_word) (by decide +kernel)) (fun _ _ _ _ _ => pg_name (i := 7) S__law_counting_word.nd rfl (Or.inl rfl)) (fun _ _ _ _ _ => pts_nil) (fun _ _ _ _ _ => (pe_op op_add_str (pv 6) (pv 7))))))) pss_nil)))
    (pss_cons
    (ps_set (i := 2) S__law_counting_word.nd rfl (Or.inl rfl) (pe_op op_add_str (pv 2) (pe_join pe_str (pv 5))))
    (pss_one
    (ps_set (i := 3) S__law_counting_word.nd rfl (Or.inl rfl) (pe_callTy call_list_of rfl T.z_list (by decide +kernel) (pa_cons (pv 5) pa_nil)))))))))
    (pss_one
    (ps_ret (pe_slice sl_str (pv 2) po_none (po_some (pv 1)))))))), ?_⟩
  have h6 := hA.six
  refine q_asg (v := tx []) (ev_is ev_c (by rw [mt_is])) fun H1 e1 => ?_
  refine q_asgL (xs := [tx []]) (el_lst (ea_cons (ev_is ev_c (by rw [mt_is])) ea_nil) (by show 1 ≤ 100000; decide)) fun s0 H2 hs0 e2 g2 => ?_
  have e12 := e1.trans e2
  have fin : ∀ (σ' : L2.St) (H' : Hp) (v : List Nat) (u3 u4 u5 u6 u7 : Option V), σ' = [some (tx al), some (.int (n : Int)), some (tx v), u3, u4, u5, u6, u7] → (∀ c ∈ v, c ∈ al) → v.length ≤ 6000 → Ex H H' →
      tRet (tSl rSlS (tVar 2) tNoPart (tPart (tVar 1))) { nx := fun x H' => Q V.non H', rt := Q } σ' H' := by
    intro σ' H' v u3 u4 u5 u6 u7 hσ ho hz e
    subst hσ
    exact s_ret (ev_slS (by omega) (ev_var rfl) eo_none (eo_some (i := (n : Int)) (ev_var rfl))) fun H3 e3 => q _ (Word.cut ho (Nat.le_refl _)) H3 (e.trans e3)
  refine q_forR1 (ea_cons ev_c ea_nil) (by decide) (fun t σ' H' => ∃ (v : List Nat) (s1 : Addr) (ss : List (List Nat)) (u4 u5 u6 u7 : Option V), σ' = [some (tx al), some (.int (n : Int)), some (tx v), some (.ref s1), u4, u5, u6, u7] ∧ Ex H H' ∧ (∀ c ∈ v, c ∈ al) ∧ v.length ≤ 6000 ∧ H' s1 = some (.lst (ss.map tx)) ∧
    (∀ s ∈ ss, s.length = t ∧ ∀ c ∈ s, c ∈ al) ∧ ss.length ≤ 1000) ?_ ?_ ?_
  · intro H3 e3
    refine ⟨[], s0, [[]], none, none, none, none, rfl, e12.trans e3, fun c h => (by cases h), Nat.zero_le _, e3 _ _ g2, fun s hs => ?_, by show 1 ≤ 1000; decide⟩
    rw [List.mem_singleton.mp hs]
    exact ⟨rfl, fun c h => (by cases h)⟩
  · intro t σ' H' ht z
    obtain ⟨v, s1, ss, u4, u5, u6, u7, rfl, e3, vo, vz, g3, sf, sz⟩ := z
    have ht4 : t < 400 := by
      have : (t : Int) < 400 := ht
      omega
    refine q_when (et_ge (ev_lenS (by omega) (ev_var rfl)) (ev_var rfl)) (fun hb H3 e4 => ?_) (fun hb H3 e4 => ?_)
    · exact fin _ H3 v _ _ _ _ _ rfl vo vz (e3.trans e4)
    · have hvn : v.length < n := by
        have := of_decide_eq_false hb
        omega
      refine q_asgL (xs := ([] : List (List Nat)).map tx) (el_lst ea_nil (by decide)) fun g0 H4 hg0 e5 g4 => ?_
      have e34 := e4.trans e5
      refine q_forLn (ev_var rfl) (sq_of (e34 _ _ g3)) (fun i σ' H' => ∃ (g : Addr) (gs : List (List Nat)) (u6 u7 : Option V), σ' = [some (tx al), some (.int (n : Int)), some (tx v), some (.ref s1), some (.int (t : Int)), some (.ref g), u6, u7] ∧ Ex H H' ∧ H' s1 = some (.lst (ss.map tx)) ∧ H' g = some (.lst (gs.map tx)) ∧
        (∀ s ∈ gs, s.length = t + 1 ∧ ∀ c ∈ s, c ∈ al) ∧ gs.length * (t + 1) ≤ n + 12 * (t + 1)) ?_ ?_ ?_ ?_
      · intro H5 e6
        exact ⟨g0, [], u6, u7, rfl, (e3.trans e34).trans e6, e6 _ _ (e34 _ _ g3), e6 _ _ g4, fun s h => (by cases h), by show 0 * _ ≤ _; omega⟩
      · intro i σ' H' _ z
        obtain ⟨g, gs, u6, u7, rfl, e6, k1, _⟩ := z
        exact sq_of k1
      · intro i x σ' H' hx z
        obtain ⟨g, gs, u6, u7, rfl, e6, k1, k2, k3, k4⟩ := z
        rw [List.getElem?_map] at hx
        cases hp : ss[i]? with
        | none =>
          rw [hp] at hx
          cases hx
        | some st =>
        rw [hp] at hx
        cases hx
        obtain ⟨hsl, hso⟩ := sf st (List.mem_of_getElem? hp)
        have hgl : gs.length ≤ 5200 := Nat.le_trans (mul_le_of (by omega) k4) (by omega)
        refine s_when (et_lt (ev_add (ev_lenS (by omega) (ev_var rfl)) (ev_mulL (i := (gs.length : Int)) (by omega) (by omega) (ev_is (ev_cb (ea_cons (ev_var rfl) ea_nil) (rc_lenL (sq_of k2))) (by rw [List.length_map])) (ev_add (ev_lenS (l := st) (by omega) (ev_var rfl)) ev_c))) (ev_add (ev_var rfl) (ev_mulL (by decide) (by decide) ev_c (ev_add (ev_lenS (l := st) (by omega) (ev_var rfl)) ev_c)))) (fun hb H5 e7 => ?_) (fun hb H5 e7 => ?_)
        · have c := of_decide_eq_true hb
          rw [hsl] at c
          have em : (gs.length : Int) * ((t : Int) + 1) = ((gs.length * (t + 1) : Nat) : Int) := by
            rw [Int.natCast_mul, Int.natCast_add]
            rfl
          rw [em] at c
          have c2 : gs.length * (t + 1) < n + 6 * (t + 1) := by omega
          have hnew : (gs.length + al.length) * (t + 1) ≤ n + 12 * (t + 1) := by
            rw [Nat.add_mul]
            have : al.length * (t + 1) ≤ 6 * (t + 1) := Nat.mul_le_mul_right _ h6
            omega
          refine s_asgL (xs := (gs ++ al.map fun d => st ++ [d]).map tx) ?_ fun g' H6 hg' e8 k5 => ⟨g', gs ++ al.map (fun d => st ++ [d]), _, _, rfl, (e6.trans e7).trans e8, e8 _ _ (e7 _ _ k1), k5, fun s hs => ?_, by rw [List.length_append, List.length_map]; exact hnew⟩
          · rw [List.map_append, List.map_map]
            refine el_catR (ev_var rfl) (e7 _ _ k2) (el_lcS (x := al) (j := 7) (vs := [7]) (fun d => tx (st ++ [d])) (ev_var rfl) (by omega) (fun a => rfl) (fun i d H1 e9 hd => ?_)) (by rw [List.length_map, List.length_map]; omega)
            exact ev_catS (b := [d]) (by show st.length + 1 ≤ 100000; omega) (ev_var rfl) (ev_var rfl)
          · rcases List.mem_append.mp hs with hs | hs
            · exact k3 s hs
            · obtain ⟨d, hd, rfl⟩ := List.mem_map.mp hs
              refine ⟨by rw [List.length_append, hsl]; rfl, over_app hso fun c hc => ?_⟩
              rw [List.mem_singleton.mp hc]
              exact hd
        · exact ⟨g, gs, _, _, rfl, e6.trans e7, e7 _ _ k1, e7 _ _ k2, k3, k4⟩
      · intro σ' H' z
        obtain ⟨g, gs, u6, u7, rfl, e6, k1, k2, k3, k4⟩ := z
        have hfl := flat_len fun s hs => (k3 s hs).1
        have hfl2 : gs.flatten.length ≤ 400 + 12 * 400 := by
          rw [hfl]
          omega
        have hgl : gs.length ≤ 1000 := by
          by_cases c : t + 1 ≤ 12
          · -- few letters: bounded by the words
            have h2 : gs.length * 1 ≤ gs.length * (t + 1) := Nat.mul_le_mul_left _ (by omega)
            omega
          · have h2 : gs.length * 12 ≤ gs.length * (t + 1) := Nat.mul_le_mul_left _ (by omega)
            omega
        refine q_asg (v := tx (v ++ gs.flatten)) (ev_catS (by omega) (ev_var rfl) (ev_join (ev_is ev_c (by rw [mt_is])) (ev_var rfl) (.inl (sq_of k2)) (by omega))) fun H5 e7 => ?_
        refine s_asgL (el_cb (ea_cons (ev_var rfl) ea_nil) (rcl_list (sq_of (e7 _ _ k2)))) fun s2 H6 hs2 e8 k6 => ?_
        exact ⟨v ++ gs.flatten, s2, gs, _, _, _, _, rfl, (e6.trans e7).trans e8, over_app vo (flat_over fun s hs => (k3 s hs).2), by rw [List.length_append]; omega, k6, k3, hgl⟩
  · intro σ' H' z
    obtain ⟨v, s1, ss, u4, u5, u6, u7, rfl, e3, vo, vz, g3, sf, sz⟩ := z
    exact fin _ H' v _ _ _ _ _ rfl vo vz e3
end
end Ver
namespace Ver
open PySem PySem.Spec PyProof.Rows L2 Evl
/-! ### min of three numbers; an item of a written list; items by place -/
def rMin3 : List V → Hp → VK → Prop := fun xs H Q => ∃ i j k, xs = [.int i, .int j, .int k] ∧ Q (.int (min i (min j k))) H
theorem call_min3I {X : Cx} (hc : X.calm = true) : CallR X (.builtin "min") rMin3 := by
  intro pn s σ H xs us Q I r h
  obtain ⟨i, j, k, rfl, q⟩ := h
  match us, r with
  | [_, _, _], .cons ⟨t, rfl⟩ (.cons ⟨t1, rfl⟩ (.cons ⟨t2, rfl⟩ .nil)) =>
    refine min_three_ints (I.ok.hd hc) fun h' tk keep => ⟨_, H, I.kept keep, ?_, q⟩
    by_cases c1 : j < i
    · rw [if_pos c1]
      by_cases c2 : k < j
      · rw [if_pos c2]
        exact ⟨t2, by rw [show min i (min j k) = k by omega]⟩
      · rw [if_neg c2]
        exact ⟨t1, by rw [show min i (min j k) = j by omega]⟩
    · rw [if_neg c1]
      by_cases c2 : k < i
      · rw [if_pos c2]
        exact ⟨t2, by rw [show min i (min j k) = k by omega]⟩
      · rw [if_neg c2]
        exact ⟨t, by rw [show min i (min j k) = i by omega]⟩
section
variable {K : PySem.W.Frag} {σ : L2.St} {H : Hp} {ta tb tc tl : TE} {tz : TS} {D : Ends}
theorem rc_min3 {i j k : Int} : RC rMin3 [.int i, .int j, .int k] H (.int (min i (min j k))) := fun H1 _ _ q => ⟨i, j, k, rfl, q H1 (Ex.refl H1)⟩
/-- an item of a new list of ints -/
theorem ev_atN {ns : List Int} {i : Nat} {z : Int} (hl : EvL tl σ H (ns.map V.int)) (hi : i < ns.length) (hz : z = (i : Int)) (hb : ∀ H1, Ex H H1 → Ev tb σ H1 (.int z)) : Ev (tOp (rIxL K) tl tb) σ H (.int (at0 ns i)) := by
  subst hz
  exact ev_opL1 hl hb fun p H1 h _ => rv_ixL (sq_of h) (at_int hi)
/-- the numbers f 0, f 1, .. as a list -/
def nl (f : Nat → Nat) (n : Nat) : List Int := (List.range n).map fun k => (f k : Int)
theorem nl_len (f : Nat → Nat) (n : Nat) : (nl f n).length = n := by
  unfold nl
  rw [List.length_map, List.length_range]
theorem nl_at {f : Nat → Nat} {n i : Nat} (h : i < n) : at0 (nl f n) i = (f i : Int) := by
  unfold nl at0
  rw [List.getD_eq_getElem?_getD, List.getElem?_map, List.getElem?_range h]
  rfl
theorem nl_succ (f : Nat → Nat) (n : Nat) : (nl f (n + 1)).map V.int = (nl f n).map V.int ++ [V.int (f n : Int)] := by
  unfold nl
  rw [List.range_succ, List.map_append, List.map_append]
  rfl
theorem nl_congr {f g : Nat → Nat} {n : Nat} (h : ∀ k, k < n → f k = g k) : nl f n = nl g n := by
  unfold nl
  refine List.map_congr_left fun k hk => ?_
  rw [h k (List.mem_range.mp hk)]
theorem ev_nl {a : Addr} {f : Nat → Nat} {n i : Nat} {z : Int} (hs : SqL K H a ((nl f n).map V.int)) (hi : i < n) (hz : z = (i : Int)) (ha : Ev ta σ H (.ref a)) (hb : Ev tb σ H (.int z)) : Ev (tOp (rIxL K) ta tb) σ H (.int (f i : Int)) := by
  have g := ev_atI hs (by rw [nl_len]; exact hi) hz ha hb
  rw [nl_at hi] at g
  exact g
theorem nl_get (f : Nat → Nat) (n j : Nat) : ((nl f n).map V.int)[j]? = if j < n then some (.int (f j : Int)) else none := by
  unfold nl
  rw [List.getElem?_map, List.getElem?_map]
  by_cases c : j < n
  · rw [if_pos c, List.getElem?_range c]
    rfl
  · rw [if_neg c, List.getElem?_eq_none (by rw [List.length_range]; omega)]
    rfl
theorem set_nl {f : Nat → Nat} {n i x : Nat} (hi : i < n) : ((nl f n).map V.int).set i (.int (x : Int)) = (nl (fun k => if k = i then x else f k) n).map V.int := by
  refine List.ext_getElem? fun j => ?_
  rw [List.getElem?_set, nl_get, nl_get, List.length_map, nl_len]
  by_cases c : i = j
  · subst c
    rw [if_pos rfl, if_pos hi, if_pos hi, if_pos rfl]
  · rw [if_neg c]
    by_cases d : j < n
    · rw [if_pos d, if_pos d, if_neg fun e => c (Eq.symm e)]
    · rw [if_neg d, if_neg d]
theorem given_nl (f : Nat → Nat) (n : Nat) : given n (fun _ => true) (fun k => V.int (f k : Int)) = (nl f n).map V.int := by
  unfold given nl
  rw [List.filter_eq_self.mpr fun _ _ => rfl, List.map_map]
  rfl
end
open L2 Evl in
theorem ev_chainV {r r' : R2} {ta tb tc : TE} {σ : L2.St} {H : Hp} {x y z : V} {a b : Bool} (h1 : Ev ta σ H x) (h2 : Ev tb σ H y) (hr : RV r x y H (.bl a)) (h3 : a = true → Ev tc σ H z) (hr' : a = true → RV r' y z H (.bl b)) : Ev (tChain r r' ta tb tc) σ H (.bl (a && b)) := fun H1 e Q q =>
  h1 H1 e _ fun H2 e2 => h2 H2 (e.trans e2) _ fun H3 e3 => hr H3 ((e.trans e2).trans e3) _ fun H4 e4 => ⟨a, rfl, by
    have e5 := ((e.trans e2).trans e3).trans e4
    cases a with
    | false => exact ite_ff (q H4 ((e2.trans e3).trans e4))
    | true => exact ite_tt (h3 rfl H4 e5 _ fun H5 e6 => hr' rfl H5 (e5.trans e6) Q fun H6 e7 => q H6 (((((e2.trans e3).trans e4).trans e6)).trans e7))⟩
section
variable {K : PySem.W.Frag}
theorem cutV_from {xs : List V} (n : Nat) : cutV xs (some (n : Int)) none = xs.drop n := by
  unfold cutV
  rw [HT.sIx_none, HT.sIx_nat]
  by_cases h : n ≤ xs.length
  · rw [Nat.min_eq_left h]
    exact List.take_of_length_le (by rw [List.length_drop]; omega)
  · rw [Nat.min_eq_right (by omega), Nat.sub_self, List.take_zero, List.drop_eq_nil_of_le (by omega)]
theorem at0_drop {r : List Int} {n i : Nat} : at0 (r.drop n) i = at0 r (n + i) := by
  unfold at0
  rw [List.getD_eq_getElem?_getD, List.getD_eq_getElem?_getD, List.getElem?_drop]
theorem el_from {σ : L2.St} {H : Hp} {te : TE} {a : Addr} {r : List Int} {n : Nat} {i : Int} (hi : i = (n : Int)) (h : Ev te σ H (.ref a)) (hR : SqL K H a (r.map V.int)) : EvL (tSl (rSlL K) te (tPart (tC (.int i))) tNoPart) σ H ((r.drop n).map V.int) := by
  have g := el_sl (K := K) (te := te) (σ := σ) (H := H) (tl := tPart (tC (.int i))) (th := tNoPart) (lo := some i) (hi := none) h (eo_some ev_c) eo_none hR
  subst hi
  rw [cutV_from, ← List.map_drop] at g
  exact g
theorem cutV_both {xs : List V} (a b : Nat) : cutV xs (some (a : Int)) (some ((a + b : Nat) : Int)) = (xs.drop a).take b := by
  unfold cutV
  rw [HT.sIx_nat, HT.sIx_nat]
  by_cases c : a ≤ xs.length
  · rw [Nat.min_eq_left c, ← List.take_drop_min c]
  · rw [List.drop_eq_nil_of_le (show xs.length ≤ min a xs.length by omega), List.drop_eq_nil_of_le (show xs.length ≤ a by omega), List.take_nil, List.take_nil]
where
  List.take_drop_min {xs : List V} {a b : Nat} (c : a ≤ xs.length) : (xs.drop a).take b = (xs.drop a).take (min (a + b) xs.length - a) := by
    by_cases d : a + b ≤ xs.length
    · rw [Nat.min_eq_left d, Nat.add_sub_cancel_left]
    · rw [Nat.min_eq_right (by omega), List.take_of_length_le (by rw [List.length_drop]; omega), List.take_of_length_le (by rw [List.length_drop]; omega)]
theorem at0_take {r : List Int} {n i : Nat} (h : i < n) : at0 (r.take n) i = at0 r i := by
  unfold at0
  rw [List.getD_eq_getElem?_getD, List.getD_eq_getElem?_getD, List.getElem?_take_of_lt h]
theorem el_both {σ : L2.St} {H : Hp} {te t1 t2 : TE} {a : Addr} {r : List Int} {n k : Nat} (h : Ev te σ H (.ref a)) (hR : SqL K H a (r.map V.int)) (h1 : Ev t1 σ H (.int (n : Int))) (h2 : Ev t2 σ H (.int ((n + k : Nat) : Int))) : EvL (tSl (rSlL K) te (tPart t1) (tPart t2)) σ H (((r.drop n).take k).map V.int) := by
  have g := el_sl h (eo_some h1) (eo_some h2) hR
  rw [cutV_both] at g
  rw [List.map_take, List.map_drop]
  exact g
end
section
variable {K : PySem.W.Frag} {σ : L2.St} {H : Hp} {ta tb tc tl : TE} {sp : Sp} {dvs xs : List V} {E : XK} {Q : VK}
theorem el_lrg {n : Nat} (h : Ev ta σ H (.int (n : Int))) (hn : n ≤ 100000) : EvL (tLstRg (tRg1 ta)) σ H ((nl (fun k => k) n).map V.int) := fun H1 e Q q =>
  h H1 e _ fun H2 e2 => ⟨(n : Int), rfl, RgOk.of_le (by omega) (by omega) (by omega) (by omega), fun p hp => by
    have ee : rgV 0 (n : Int) = (nl (fun k => k) n).map V.int := by
      unfold rgV nl
      rw [List.map_map, show ((n : Int) - 0).toNat = n by omega]
      refine List.map_congr_left fun i _ => ?_
      show V.int (0 + (i : Int)) = V.int (i : Int)
      rw [Int.zero_add]
    rw [ee]
    exact q p _ (fresh_back e2 hp) (e2.trans (Ex.new hp)) upd_same⟩
theorem ev_sumN {ns : List Int} (h : EvL tl σ H (ns.map V.int)) : Ev (tCB (fun vs H Q => ∃ (a : Addr) (ns : List Int), vs = [V.ref a] ∧ SqL K H a (ns.map V.int) ∧ Q (V.int ns.sum) H) (tCons tl tNil)) σ H (.int ns.sum) := fun H1 e Q q =>
  h H1 e _ fun p H2 _ e2 g2 => ⟨p, ns, rfl, sq_of g2, q H2 e2⟩
theorem el_eq {ys : List V} (h : EvL tl σ H xs) (e : xs = ys) : EvL tl σ H ys := by
  rw [← e]
  exact h
theorem rv_eqv {r : R2} {x y z z' : V} (h : RV r x y H z) (e : z = z') : RV r x y H z' := by
  rw [← e]
  exact h
theorem el_catB {ys : List V} {a : Addr} (ha : Ev ta σ H (.ref a)) (hx : H a = some (.lst xs)) (hb : EvL tb σ H ys) (hz : xs.length + ys.length ≤ 100000) : EvL (tOp rCat ta tb) σ H (xs ++ ys) := fun H1 e Q q =>
  ha H1 e _ fun H2 e2 => hb H2 (e.trans e2) _ fun p H3 hp e3 h3 => ⟨a, p, xs, ys, rfl, rfl, ((e.trans e2).trans e3) _ _ hx, h3, sz_of hz, fun l hl => q l _ (fresh_back (e2.trans e3) hl) ((e2.trans e3).trans (Ex.new hl)) upd_same⟩
/-- the least, the greatest of a new list, whatever it is -/
theorem run_minN {ns : List Int} (h : EvL tl σ H (ns.map V.int)) (hp : 0 < ns.length) (k : ∀ m H1, Ex H H1 → m ∈ ns → (∀ y ∈ ns, m ≤ y) → Q (.int m) H1) : tCB (rMin K) (tCons tl tNil) σ H Q := h H (Ex.refl H) _ fun p H1 _ e g => ⟨p, ns, rfl, sq_of g, hp, fun m hm hy => k m H1 e hm hy⟩
theorem run_maxN {ns : List Int} (h : EvL tl σ H (ns.map V.int)) (hp : 0 < ns.length) (k : ∀ m H1, Ex H H1 → m ∈ ns → (∀ y ∈ ns, y ≤ m) → Q (.int m) H1) : tCB (rMax K) (tCons tl tNil) σ H Q := h H (Ex.refl H) _ fun p H1 _ e g => ⟨p, ns, rfl, sq_of g, hp, fun m hm hy => k m H1 e hm hy⟩
theorem run_c1L (hl : EvL tl σ H xs) (k : ∀ p H1, Ex H H1 → H1 p = some (.lst xs) → sp ([.ref p] ++ dvs) H1 Q E) : tCall sp dvs E (tCons tl tNil) σ H Q := hl H (Ex.refl H) _ fun p H1 _ e h1 => k p H1 e h1
theorem run_cE {x1 : V} {t1 : TE} (h1 : Ev t1 σ H x1) (hl : EvL tl σ H xs) (k : ∀ p H1, Ex H H1 → H1 p = some (.lst xs) → sp ([x1, .ref p] ++ dvs) H1 Q E) : tCall sp dvs E (tCons t1 (tCons tl tNil)) σ H Q := h1 H (Ex.refl H) _ fun H1 e1 => hl H1 e1 _ fun p H2 _ e2 g2 => k p H2 (e1.trans e2) g2
end
theorem q_asgR {te : TE} {σ : L2.St} {H : Hp} {tz : TS} {D : Ends} {i : Nat} (h : te σ H fun x H1 => tz D (σ.set i (some x)) H1) : tSeq (tAsg te (gName i)) tz D σ H := h
end Ver
namespace Ver
open PySem PySem.Spec PyProof.Rows L2 Evl
theorem over_at {al l : List Nat} {i c : Nat} (h : ∀ c ∈ l, c ∈ al) (e : l[i]? = some c) : ∀ d ∈ [c], d ∈ al := fun d hd => by
  rw [List.mem_singleton.mp hd]
  exact h c (List.mem_of_getElem? e)
theorem get_ex {l : List Nat} {i : Nat} (h : i < l.length) : l[i]? = some (l.getD i 0) := by
  rw [List.getD_eq_getElem?_getD, List.getElem?_eq_getElem h]
  rfl
section
variable {P : Program} {w : World} {K : PySem.W.Frag} {mg : Str → Option Value} {base : Heap} {C_Cut : Addr}
theorem ev_fw {σ : L2.St} {H : Hp} {ta tb tc : TE} {al : List Nat} {r : List Int} {n : Nat} (hA : Alf al) (h : Ev ta σ H (tx al)) (hl : EvL tb σ H (r.map V.int)) (h3 : ∀ H1, Ex H H1 → Ev tc σ H1 (.int (n : Int))) (hn : n ≤ r.length) (hz : n ≤ 400) :
    Ev (tCall (spFw K) [] E0 (tCons ta (tCons tb (tCons tc tNil)))) σ H (tx (fwL al r n)) := ev_call3L h hl h3 fun p H1 e h1 => sv_fw hA (sq_of h1) hn hz
/-! ### _law_word -/
structure WRow (r : List Int) : Prop where
  len : r.length = 49
  b0 : 0 ≤ at0 r 0 ∧ at0 r 0 < 12
  b1 : 0 ≤ at0 r 1 ∧ at0 r 1 < 46
  bs : ∀ i, 3 ≤ i → i < 49 → 0 ≤ at0 r i ∧ at0 r i < 6
/-! ### _law_short_word -/
def spSw (K : PySem.W.Frag) : Sp := fun vs H Q _ => ∃ (al : List Nat) (a : Addr) (r : List Int), vs = [tx al, .ref a] ∧ Alf al ∧ SqL K H a (r.map V.int) ∧ WRow r ∧ ∀ v, Word al 45 v → RetV (tx v) H Q
theorem has_sw (F : At K mg "_law_short_word" s__law_short_word) (T : Top K mg C_Cut) (h1 : Has P w K mg base "_law_plain_word" s__law_plain_word ["signs", "row", "most"] 1 (spFw K)) (h2 : Has P w K mg base "_law_counting_word" s__law_counting_word ["signs", "most"] 1 spCw) : Has P w K mg base "_law_short_word" s__law_short_word ["signs", "row"] 2 (spSw K) := by
  obtain ⟨f, fd, F, m⟩ := F.ex
  obtain ⟨f1, fd1, _, G__law_plain_word, b__law_plain_word, m__law_plain_word, k__law_plain_word⟩ := h1
  obtain ⟨f2, fd2, _, G__law_counting_word, b__law_counting_word, m__law_counting_word, k__law_counting_word⟩ := h2
  refine ⟨f, fd, F, F.ok S__law_short_word (fun vs H Q E h => ?_) (fun cdv A outer s H vs Q E hr h => ?_), F.binds fun _ _ _ _ _ _ us hl => match us, hl with | [_, _], _ => rfl, m, F.kp⟩
  · obtain ⟨al, a, r, rfl, _⟩ := h
    rfl
  obtain ⟨al, a, r, rfl, hA, hR, ⟨hl, b0, b1, bs⟩, q⟩ := h
  refine ⟨_, (pss_cons
    (ps_set (i := 2) S__law_short_word.nd rfl (Or.inl rfl) (pe_ix (r := rIxL K) ix_list (pv 1) pe_int (fun _ _ => rfl)))
    (pss_cons
    (ps_set (i := 3) S__law_short_word.nd rfl (Or.inl rfl) (pe_call G__law_plain_word (hr.mono (by decide)) rfl m__law_plain_word k__law_plain_word b__law_plain_word .nil pass0 (pa_cons (pv 0) (pa_cons (pe_slice sl_list (pv 1) (po_some pe_int) po_none) (pa_cons pe_int pa_nil)))))
    (pss_cons
    (ps_set (i := 4) S__law_short_word.nd rfl (Or.inl rfl) (pe_ix (r := rIxL K) ix_list (pv 1) pe_int (fun _ _ => rfl)))
    (pss_cons
    (ps_if (pt_cmpR op_lt (pv 4) pe_int (nomark _)) (pss_one
    (ps_ret (pe_slice sl_str (pv 3) po_none (po_some (pv 2))))) pss_nil)
    (pss_cons
    (ps_if (pt_cmpR op_lt (pv 4) pe_int (nomark _)) (pss_one
    (ps_ret (pe_slice sl_str (pe_op op_mulS (pe_slice sl_str (pv 3) po_none (po_some (pe_op op_add pe_int (pe_op op_mod (pe_callTy call_int1 rfl T.z_int (by decide +kernel) (pa_cons (pe_ix (r := rIxL K) ix_list (pv 1) pe_int (fun _ _ => rfl)) pa_nil)) pe_int)))) pe_int) po_none (po_some (pv 2))))) pss_nil)
    (pss_cons
    (ps_if (pt_cmpR op_eq (pv 4) pe_int (nomark _)) (pss_cons
    (ps_set (i := 5) S__law_short_word.nd rfl (Or.inl rfl) pe_str)
    (pss_cons
    (ps_for PassesOwn.never rfl (pi_range1 rfl T.z_range (pa_cons pe_int pa_nil)) (pg_name (i := 6) S__law_short_word.nd rfl (Or.inl rfl)) (pss_one
    (ps_set (i := 5) S__law_short_word.nd rfl (Or.inl rfl) (pe_op op_add_str (pv 5) (pe_op op_mulS (pe_ix ix_str (pv 3) (pv 6) (fun _ _ => rfl)) (pe_op op_add pe_int (pe_callTy call_int1 rfl T.z_int (by decide +kernel) (pa_cons (pe_ix (r := rIxL K) ix_list (pv 1) (pe_op op_add (pe_op op_add pe_int pe_int) (pv 6)) (fun _ _ => rfl)) pa_nil))))))))
    (pss_one
    (ps_ret (pe_slice sl_str (pv 5) po_none (po_some (pv 2))))))) pss_nil)
    (pss_cons
    (ps_if (pt_cmpR op_eq (pv 4) pe_int (nomark _)) (pss_one
    (ps_ret (pe_call G__law_counting_word (hr.mono (by decide)) rfl m__law_counting_word k__law_counting_word b__law_counting_word .nil pass0 (pa_cons (pv 0) (pa_cons (pv 2) pa_nil))))) pss_nil)
    (pss_cons
    (ps_if (pt_cmpR op_eq (pv 4) pe_int (nomark _)) (pss_cons
    (ps_set (i := 5) S__law_short_word.nd rfl (Or.inl rfl) (pe_slice sl_str (pv 3) po_none (po_some pe_int)))
    (pss_cons
    (ps_for PassesOwn.never rfl (pi_range1 rfl T.z_range (pa_cons pe_int pa_nil)) (pg_name (i := 6) S__law_short_word.nd rfl (Or.inl rfl)) (pss_one
    (ps_set (i := 5) S__law_short_word.nd rfl (Or.inl rfl) (pe_op op_add_str (pe_op op_add_str (pv 5) (pe_ix ix_str (pv 3) (pe_op op_add pe_int (pv 6)) (fun _ _ => rfl))) (pv 5)))))
    (pss_one
    (ps_ret (pe_slice sl_str (pv 5) po_none (po_some (pv 2))))))) pss_nil)
    (pss_cons
    (ps_if (pt_cmpR op_eq (pv 4) pe_int (nomark _)) (pss_one
    (ps_ret (pe_slice sl_str (pe_op op_add_str (pe_slice sl_str (pe_op op_mulS (pe_slice sl_str (pv 3) po_none (po_some pe_int)) pe_int) po_none (po_some (pe_op op_mod (pe_callTy call_int1 rfl T.z_int (by decide +kernel) (pa_cons (pe_ix (r := rIxL K) ix_list (pv 1) pe_int (fun _ _ => rfl)) pa_nil)) pe_int))) (pv 3)) po_none (po_some (pv 2))))) pss_nil)
    (pss_one
    (ps_ret (pe_slice sl_str (pe_op op_mulS (pe_ix ix_str (pv 0) (pe_op op_mod (pe_callTy call_int1 rfl T.z_int (by decide +kernel) (pa_cons (pe_ix (r := rIxL K) ix_list (pv 1) pe_int (fun _ _ => rfl)) pa_nil)) (pe_callB call_len_str rfl T.z_len PySem.boot_len (pa_cons (pv 0) pa_nil))) (fun _ _ => rfl)) pe_int) po_none (po_some (pv 2)))))))))))))), ?_⟩
  obtain ⟨n, hn, en⟩ : ∃ n : Nat, n ≤ 45 ∧ at0 r 1 = (n : Int) := ⟨(at0 r 1).toNat, by omega, by omega⟩
  refine q_asg (v := .int (n : Int)) (ev_is (ev_atI hR (i := 1) (by omega) rfl (ev_var rfl) ev_c) (by rw [en])) fun H1 e1 => ?_
  have hR1 := ex_l e1 hR
  refine q_asg (ev_fw (r := r.drop 3) (n := 46) hA (ev_var rfl) (el_from (n := 3) rfl (ev_var rfl) hR1) (fun _ _ => ev_c) (by rw [List.length_drop]; omega) (by decide)) fun H2 e2 => ?_
  have fo := fwL_over hA (r := r.drop 3) (n := 46)
  have fl := fwL_len (al := al) (r := r.drop 3) (n := 46)
  generalize fwL al (r.drop 3) 46 = fr at fo fl ⊢
  have hR2 := ex_l e2 hR1
  refine q_asg (ev_atI hR2 (i := 0) (by omega) rfl (ev_var rfl) ev_c) fun H3 e3 => ?_
  have hR3 := ex_l e3 hR2
  have e13 := (e1.trans e2).trans e3
  -- each way gives a beginning of a text over al
  have out : ∀ {te : TE} {σ : L2.St} {H' : Hp} {v : List Nat}, Ex H H' → Ev te σ H' (tx v) → (∀ c ∈ v, c ∈ al) → v.length ≤ 100000 → σ[2]? = some (some (.int (n : Int))) → tRet (tSl rSlS te tNoPart (tPart (tVar 2))) { nx := fun x H' => Q V.non H', rt := Q } σ H' :=
    fun e h ho hz hs => s_ret (ev_slS hz h eo_none (eo_some (i := (n : Int)) (ev_var hs))) fun H5 e5 => q _ (Word.cut ho hn) H5 (e.trans e5)
  refine q_when (et_lt (ev_var rfl) ev_c) (fun hb H4 e4 => ?_) (fun hb H4 e4 => ?_)
  · exact out (e13.trans e4) (ev_var rfl) fo (by omega) rfl
  have e14 := e13.trans e4
  refine q_when (et_lt (ev_var rfl) ev_c) (fun hb H5 e5 => ?_) (fun hb H5 e5 => ?_)
  · obtain ⟨k, hk, ek⟩ := int_mod (x := at0 r 2) (n := 5) (by decide)
    have ek : at0 r 2 % 5 = (k : Int) := ek
    refine out (e14.trans e5) (ev_mulS (l := cutL fr none (some ((1 + k : Nat) : Int))) (n := 46) (by decide) ?_ (ev_slS (by omega) (ev_var rfl) eo_none (eo_some (ev_is (ev_add ev_c (ev_mod (by decide) (ev_int (ev_atI (ex_l (e4.trans e5) hR3) (i := 2) (by omega) rfl (ev_var rfl) ev_c)) ev_c)) ?_))) ev_c) (over_rep (over_cut fo)) ?_ rfl
    · have := cutL_len (l := fr) (lo := none) (hi := some ((1 + k : Nat) : Int))
      omega
    · rw [ek, Int.natCast_add]
      rfl
    · rw [rep_len]
      have := cutL_len (l := fr) (lo := none) (hi := some ((1 + k : Nat) : Int))
      omega
  have e15 := e14.trans e5
  have hR5 := ex_l (e4.trans e5) hR3
  refine q_when (et_eqI (ev_var rfl) ev_c) (fun hb H6 e6 => ?_) (fun hb H6 e6 => ?_)
  · let g : Nat → List Nat := fun k => (List.replicate (1 + (at0 r (15 + k)).toNat) [fr.getD k 0]).flatten
    have hg : ∀ k, k < 12 → (∀ c ∈ g k, c ∈ al) ∧ (g k).length ≤ 7 := fun k hk => by
      have := bs (15 + k) (by omega) (by omega)
      refine ⟨over_rep (over_at fo (get_ex (by omega))), ?_⟩
      show (List.replicate _ _).flatten.length ≤ 7
      rw [rep_len]
      show _ * 1 ≤ 7
      omega
    have hfl : ((List.range 12).map g).flatten.length ≤ 84 := by
      have k7 : ∀ n, n ≤ 12 → ((List.range n).map g).flatten.length ≤ 7 * n := by
        intro n
        induction n with
        | zero => intro _; exact Nat.le_refl 0
        | succ n ih =>
          intro h
          have := ih (by omega)
          have := (hg n (by omega)).2
          rw [List.range_succ, List.map_append, List.flatten_append, List.length_append]
          have e1 : ([n].map g).flatten.length = (g n).length := by simp
          rw [e1]
          omega
      exact k7 12 (Nat.le_refl _)
    refine q_asg (v := tx []) (ev_is ev_c (by rw [mt_is])) fun H7 e7 => ?_
    refine q_forR1 (ea_cons ev_c ea_nil) (by decide) (fun i σ' H' => ∃ u6 : Option V, σ' = [some (tx al), some (.ref a), some (.int (n : Int)), some (tx fr), some (.int (at0 r 0)), some (tx ((List.range i).map g).flatten), u6] ∧ Ex H H' ∧ (∀ c ∈ ((List.range i).map g).flatten, c ∈ al) ∧ ((List.range i).map g).flatten.length ≤ 7 * i) ?_ ?_ ?_
    · intro H8 e8
      exact ⟨none, rfl, ((e15.trans e6).trans e7).trans e8, fun c hc => by simp at hc, by simp⟩
    · intro i σ' H' hi z
      obtain ⟨u6, rfl, e8, vo, vz⟩ := z
      have hi2 : i < 12 := by
        have : (i : Int) < 12 := hi
        omega
      have := bs (15 + i) (by omega) (by omega)
      have hgi := hg i hi2
      have es : ((List.range (i + 1)).map g).flatten = ((List.range i).map g).flatten ++ g i := by
        rw [List.range_succ, List.map_append, List.flatten_append]
        simp
      refine s_asg (v := tx ((List.range (i + 1)).map g).flatten) (ev_is (ev_catS (a := ((List.range i).map g).flatten) (b := g i) (by omega) (ev_var rfl) (ev_mulS (l := [fr.getD i 0]) (n := 1 + (at0 r (15 + i)).toNat) (by omega) (by show 1 * _ ≤ 100000; omega) (ev_ixS (by omega) (get_ex (by omega)) (ev_var rfl) (ev_var rfl)) (ev_is (ev_add ev_c (ev_int (ev_atI (ex_l e8 hR) (i := 15 + i) (by omega) (by omega) (ev_var rfl) (ev_add (ev_add ev_c ev_c) (ev_var rfl))))) (by congr 1; omega)))) (by rw [es])) fun H9 e9 => ⟨_, rfl, e8.trans e9, fun c hc => ?_, ?_⟩
      · rw [es] at hc
        exact (List.mem_append.mp hc).elim (vo c) (hgi.1 c)
      · rw [es, List.length_append]
        omega
    · intro σ' H' z
      obtain ⟨u6, rfl, e8, vo, vz⟩ := z
      exact out e8 (ev_var rfl) vo (by have e12 : (12 : Int).toNat = 12 := rfl; omega) rfl
  have e16 := e15.trans e6
  have hR6 := ex_l e6 hR5
  refine q_when (et_eqI (ev_var rfl) ev_c) (fun hb H7 e7 => ?_) (fun hb H7 e7 => ?_)
  · refine s_retCall (vs := [tx al, .int (n : Int)]) (ea_cons (ev_var rfl) (ea_cons (ev_var rfl) ea_nil)) fun H8 e8 => ⟨al, n, rfl, hA, by omega, fun v hv H9 e9 => q v ⟨hv.over, Nat.le_trans hv.len hn⟩ H9 (((e16.trans e7).trans e8).trans e9)⟩
  have e17 := e16.trans e7
  have hR7 := ex_l e7 hR6
  refine q_when (et_eqI (ev_var rfl) ev_c) (fun hb H8 e8 => ?_) (fun hb H8 e8 => ?_)
  · refine q_asg (ev_slS (by omega) (ev_var rfl) eo_none (eo_some (i := ((2 : Nat) : Int)) ev_c)) fun H9 e9 => ?_
    refine q_forR1 (ea_cons ev_c ea_nil) (by decide) (fun i σ' H' => ∃ (v : List Nat) (u6 : Option V), σ' = [some (tx al), some (.ref a), some (.int (n : Int)), some (tx fr), some (.int (at0 r 0)), some (tx v), u6] ∧ Ex H H' ∧ (∀ c ∈ v, c ∈ al) ∧ v.length + 1 ≤ 3 * 2 ^ i) ?_ ?_ ?_
    · intro H10 e10
      refine ⟨cutL fr none (some ((2 : Nat) : Int)), none, rfl, ((e17.trans e8).trans e9).trans e10, over_cut fo, ?_⟩
      rw [cutL_to, List.length_take]
      show min 2 _ + 1 ≤ 3 * 1
      omega
    · intro i σ' H' hi z
      obtain ⟨v, u6, rfl, e10, vo, vz⟩ := z
      have hi2 : i < 5 := by
        have : (i : Int) < 5 := hi
        omega
      have hp : 2 ^ i ≤ 2 ^ 5 := Nat.pow_le_pow_right (by decide) (by omega)
      have hp5 : (2 : Nat) ^ 5 = 32 := rfl
      have hge := get_ex (l := fr) (i := 2 + i) (by omega)
      refine s_asg (ev_catS (a := v ++ [fr.getD (2 + i) 0]) (by rw [List.length_append]; show _ + 1 + _ ≤ _; omega) (ev_catS (b := [fr.getD (2 + i) 0]) (by show _ + 1 ≤ _; omega) (ev_var rfl) (ev_ixS (i := 2 + i) (by omega) hge (ev_var rfl) (ev_is (ev_add ev_c (ev_var rfl)) (by rw [Int.natCast_add]; rfl)))) (ev_var rfl)) fun H11 e11 => ⟨_, _, rfl, e10.trans e11, over_app (over_app vo (over_at fo hge)) vo, ?_⟩
      rw [List.length_append, List.length_append, Nat.pow_succ]
      show v.length + 1 + v.length + 1 ≤ _
      omega
    · intro σ' H' z
      obtain ⟨v, u6, rfl, e10, vo, vz⟩ := z
      have hp5 : (2 : Nat) ^ (5 : Int).toNat = 32 := rfl
      exact out e10 (ev_var rfl) vo (by omega) rfl
  have e18 := e17.trans e8
  have hR8 := ex_l e8 hR7
  refine q_when (et_eqI (ev_var rfl) ev_c) (fun hb H9 e9 => ?_) (fun hb H9 e9 => ?_)
  · obtain ⟨k, hk, ek⟩ := int_mod (x := at0 r 2) (n := 20) (by decide)
    have ek : at0 r 2 % 20 = (k : Int) := ek
    have c3 := cutL_len (l := fr) (lo := none) (hi := some 3)
    have hrl : (List.replicate 10 (cutL fr none (some 3))).flatten.length ≤ 460 := by
      rw [rep_len]
      omega
    have hcl := cutL_len (l := (List.replicate 10 (cutL fr none (some 3))).flatten) (lo := none) (hi := some (k : Int))
    refine out (e18.trans e9) (ev_catS (b := fr) (by omega) (ev_slS (l := (List.replicate 10 (cutL fr none (some 3))).flatten) (by omega) (ev_mulS (n := 10) (by decide) (by omega) (ev_slS (by omega) (ev_var rfl) eo_none (eo_some ev_c)) ev_c) eo_none (eo_some (i := (k : Int)) (ev_is (ev_mod (by decide) (ev_int (ev_atI (ex_l e9 hR8) (i := 2) (by omega) rfl (ev_var rfl) ev_c)) ev_c) (by rw [ek])))) (ev_var rfl)) (over_app (over_cut (over_rep (over_cut fo))) fo) (by rw [List.length_append]; omega) rfl
  · obtain ⟨k, hk, ek⟩ := int_mod (x := at0 r 3) (n := al.length) hA.pos
    have hge := get_ex (l := al) (i := k) hk
    have h6 := hA.six
    exact out (e18.trans e9) (ev_mulS (l := [al.getD k 0]) (n := 46) (by decide) (by show 1 * 46 ≤ 100000; decide) (ev_ixS (i := k) (by omega) hge (ev_var rfl) (ev_is (ev_mod (j := (al.length : Int)) (by have := hA.pos; omega) (ev_int (ev_atI (ex_l e9 hR8) (i := 3) (by omega) rfl (ev_var rfl) ev_c)) (ev_lenS (by omega) (ev_var rfl))) (by rw [ek]))) ev_c) (over_rep (over_at (fun c h => h) hge)) (by rw [rep_len]; show 46 * 1 ≤ 100000; decide) rfl
/-! ### _law_ruled_word -/
structure LRow (r : List Int) : Prop where
  len : r.length = 8
  b1 : 0 ≤ at0 r 1 ∧ at0 r 1 < 401
def spRw (K : PySem.W.Frag) : Sp := fun vs H Q _ => ∃ (al : List Nat) (a : Addr) (r : List Int), vs = [tx al, .ref a] ∧ Alf al ∧ SqL K H a (r.map V.int) ∧ LRow r ∧ ∀ v, Word al 400 v → RetV (tx v) H Q
theorem has_rw (F : At K mg "_law_ruled_word" s__law_ruled_word) (T : Top K mg C_Cut) (h1 : Has P w K mg base "_law_plain_word" s__law_plain_word ["signs", "row", "most"] 1 (spFw K)) (h2 : Has P w K mg base "_law_counting_word" s__law_counting_word ["signs", "most"] 1 spCw) : Has P w K mg base "_law_ruled_word" s__law_ruled_word ["signs", "row"] 2 (spRw K) := by
  obtain ⟨f, fd, F, m⟩ := F.ex
  obtain ⟨f1, fd1, _, G__law_plain_word, b__law_plain_word, m__law_plain_word, k__law_plain_word⟩ := h1
  obtain ⟨f2, fd2, _, G__law_counting_word, b__law_counting_word, m__law_counting_word, k__law_counting_word⟩ := h2
  refine ⟨f, fd, F, F.ok S__law_ruled_word (fun vs H Q E h => ?_) (fun cdv A outer s H vs Q E hr h => ?_), F.binds fun _ _ _ _ _ _ us hl => match us, hl with | [_, _], _ => rfl, m, F.kp⟩
  · obtain ⟨al, a, r, rfl, _⟩ := h
    rfl
  obtain ⟨al, a, r, rfl, hA, hR, ⟨hl, b1⟩, q⟩ := h
  refine ⟨_, (pss_cons
    (ps_set (i := 2) S__law_ruled_word.nd rfl (Or.inl rfl) (pe_ix (r := rIxL K) ix_list (pv 1) pe_int (fun _ _ => rfl)))
    (pss_cons
    (ps_set (i := 3) S__law_ruled_word.nd rfl (Or.inl rfl) (pe_call G__law_plain_word (hr.mono (by decide)) rfl m__law_plain_word k__law_plain_word b__law_plain_word .nil pass0 (pa_cons (pv 0) (pa_cons (pe_slice sl_list (pv 1) (po_some pe_int) po_none) (pa_cons pe_int pa_nil)))))
    (pss_cons
    (ps_if (pt_cmpR op_eq (pe_ix (r := rIxL K) ix_list (pv 1) pe_int (fun _ _ => rfl)) pe_int (nomark _)) (pss_one
    (ps_ret (pe_slice sl_str (pe_op op_mulS (pe_ix ix_str (pv 3) pe_int (fun _ _ => rfl)) pe_int) po_none (po_some (pv 2))))) pss_nil)
    (pss_cons
    (ps_if (pt_cmpR op_eq (pe_ix (r := rIxL K) ix_list (pv 1) pe_int (fun _ _ => rfl)) pe_int (nomark _)) (pss_one
    (ps_ret (pe_slice sl_str (pe_op op_mulS (pv 3) pe_int) po_none (po_some (pv 2))))) pss_nil)
    (pss_cons
    (ps_if (pt_cmpR op_eq (pe_ix (r := rIxL K) ix_list (pv 1) pe_int (fun _ _ => rfl)) pe_int (nomark _)) (pss_one
    (ps_ret (pe_call G__law_counting_word (hr.mono (by decide)) rfl m__law_counting_word k__law_counting_word b__law_counting_word .nil pass0 (pa_cons (pv 0) (pa_cons (pv 2) pa_nil))))) pss_nil)
    (pss_cons
    (ps_if (pt_cmpR op_eq (pe_ix (r := rIxL K) ix_list (pv 1) pe_int (fun _ _ => rfl)) pe_int (nomark _)) (pss_cons
    (ps_set (i := 4) S__law_ruled_word.nd rfl (Or.inl rfl) (pe_slice sl_str (pv 3) po_none (po_some pe_int)))
    (pss_cons
    (ps_for PassesOwn.never rfl (pi_range1 rfl T.z_range (pa_cons pe_int pa_nil)) (pg_name (i := 5) S__law_ruled_word.nd rfl (Or.inl rfl)) (pss_one
    (ps_set (i := 4) S__law_ruled_word.nd rfl (Or.inl rfl) (pe_op op_add_str (pe_op op_add_str (pv 4) (pe_ix ix_str (pv 3) (pe_op op_add pe_int (pe_op op_mod (pv 5) pe_int)) (fun _ _ => rfl))) (pv 4)))))
    (pss_one
    (ps_ret (pe_slice sl_str (pv 4) po_none (po_some (pv 2))))))) pss_nil)
    (pss_cons
    (ps_set (i := 4) S__law_ruled_word.nd rfl (Or.inl rfl) (pe_slice sl_str (pe_op op_mulS (pe_slice sl_str (pv 3) po_none (po_some pe_int)) pe_int) po_none (po_some (pv 2))))
    (pss_cons
    (ps_set (i := 6) S__law_ruled_word.nd rfl (Or.inl rfl) (pe_op op_mod (pe_callTy call_int1 rfl T.z_int (by decide +kernel) (pa_cons (pe_ix (r := rIxL K) ix_list (pv 1) pe_int (fun _ _ => rfl)) pa_nil)) (pe_op op_add (pv 2) pe_int)))
    (pss_one
    (ps_ret (pe_slice sl_str (pe_op op_add_str (pe_op op_add_str (pe_slice sl_str (pv 4) po_none (po_some (pv 6))) (pe_ix ix_str (pv 3) pe_int (fun _ _ => rfl))) (pe_slice sl_str (pv 4) (po_some (pv 6)) po_none)) po_none (po_some pe_int)))))))))))), ?_⟩
  obtain ⟨n, hn, en⟩ : ∃ n : Nat, n ≤ 400 ∧ at0 r 1 = (n : Int) := ⟨(at0 r 1).toNat, by omega, by omega⟩
  refine q_asg (v := .int (n : Int)) (ev_is (ev_atI hR (i := 1) (by omega) rfl (ev_var rfl) ev_c) (by rw [en])) fun H1 e1 => ?_
  have hR1 := ex_l e1 hR
  refine q_asg (ev_fw (r := r.drop 2) (n := 5) hA (ev_var rfl) (el_from (n := 2) rfl (ev_var rfl) hR1) (fun _ _ => ev_c) (by rw [List.length_drop]; omega) (by decide)) fun H2 e2 => ?_
  have fo := fwL_over hA (r := r.drop 2) (n := 5)
  have fl := fwL_len (al := al) (r := r.drop 2) (n := 5)
  generalize fwL al (r.drop 2) 5 = fr at fo fl ⊢
  have hR2 := ex_l e2 hR1
  have e12 := e1.trans e2
  have out : ∀ {te : TE} {σ : L2.St} {H' : Hp} {v : List Nat}, Ex H H' → Ev te σ H' (tx v) → (∀ c ∈ v, c ∈ al) → v.length ≤ 100000 → σ[2]? = some (some (.int (n : Int))) → tRet (tSl rSlS te tNoPart (tPart (tVar 2))) { nx := fun x H' => Q V.non H', rt := Q } σ H' :=
    fun e h ho hz hs => s_ret (ev_slS hz h eo_none (eo_some (i := (n : Int)) (ev_var hs))) fun H5 e5 => q _ (Word.cut ho hn) H5 (e.trans e5)
  have hge0 := get_ex (l := fr) (i := 0) (by omega)
  refine q_when (et_eqI (ev_atI hR2 (i := 0) (by omega) rfl (ev_var rfl) ev_c) ev_c) (fun hb H3 e3 => ?_) (fun hb H3 e3 => ?_)
  · exact out (e12.trans e3) (ev_mulS (l := [fr.getD 0 0]) (n := 400) (by decide) (by show 1 * 400 ≤ 100000; decide) (ev_ixS (i := 0) (by omega) hge0 (ev_var rfl) ev_c) ev_c) (over_rep (over_at fo hge0)) (by rw [rep_len]; show 400 * 1 ≤ 100000; decide) rfl
  have hR3 := ex_l e3 hR2
  refine q_when (et_eqI (ev_atI hR3 (i := 0) (by omega) rfl (ev_var rfl) ev_c) ev_c) (fun hb H4 e4 => ?_) (fun hb H4 e4 => ?_)
  · exact out ((e12.trans e3).trans e4) (ev_mulS (l := fr) (n := 80) (by decide) (by omega) (ev_var rfl) ev_c) (over_rep fo) (by rw [rep_len]; omega) rfl
  have hR4 := ex_l e4 hR3
  have e14 := (e12.trans e3).trans e4
  refine q_when (et_eqI (ev_atI hR4 (i := 0) (by omega) rfl (ev_var rfl) ev_c) ev_c) (fun hb H5 e5 => ?_) (fun hb H5 e5 => ?_)
  · refine s_retCall (vs := [tx al, .int (n : Int)]) (ea_cons (ev_var rfl) (ea_cons (ev_var rfl) ea_nil)) fun H8 e8 => ⟨al, n, rfl, hA, hn, fun v hv H9 e9 => q v ⟨hv.over, Nat.le_trans hv.len hn⟩ H9 (((e14.trans e5).trans e8).trans e9)⟩
  have hR5 := ex_l e5 hR4
  have e15 := e14.trans e5
  have wo : ∀ c ∈ cutL fr none (some ((2 : Nat) : Int)), c ∈ al := over_cut fo
  have wl : (cutL fr none (some ((2 : Nat) : Int))).length = 2 := by
    rw [cutL_to, List.length_take]
    omega
  refine q_when (et_eqI (ev_atI hR5 (i := 0) (by omega) rfl (ev_var rfl) ev_c) ev_c) (fun hb H7 e7 => ?_) (fun hb H7 e7 => ?_)
  · refine q_asg (ev_slS (by omega) (ev_var rfl) eo_none (eo_some (i := ((2 : Nat) : Int)) ev_c)) fun H6 e6 => ?_
    have e16 := e15.trans e7
    generalize cutL fr none (some ((2 : Nat) : Int)) = wd at wo wl ⊢
    refine q_forR1 (ea_cons ev_c ea_nil) (by decide) (fun i σ' H' => ∃ (v : List Nat) (u7 : Option V), σ' = [some (tx al), some (.ref a), some (.int (n : Int)), some (tx fr), some (tx v), u7, none] ∧ Ex H H' ∧ (∀ c ∈ v, c ∈ al) ∧ v.length + 1 ≤ 3 * 2 ^ i) ?_ ?_ ?_
    · intro H10 e10
      refine ⟨wd, none, rfl, (e16.trans e6).trans e10, wo, ?_⟩
      rw [wl]
      decide
    · intro i σ' H' hi z
      obtain ⟨v, u6, rfl, e10, vo, vz⟩ := z
      have hi2 : i < 8 := by
        have : (i : Int) < 8 := hi
        omega
      have hp : 2 ^ i ≤ 2 ^ 8 := Nat.pow_le_pow_right (by decide) (by omega)
      have hp5 : (2 : Nat) ^ 8 = 256 := rfl
      have hge := get_ex (l := fr) (i := 2 + i % 3) (by omega)
      have e3' : (2 : Int) + (i : Int) % 3 = ((2 + i % 3 : Nat) : Int) := by omega
      refine s_asg (ev_catS (a := v ++ [fr.getD (2 + i % 3) 0]) (by rw [List.length_append]; show _ + 1 + _ ≤ _; omega) (ev_catS (b := [fr.getD (2 + i % 3) 0]) (by show _ + 1 ≤ _; omega) (ev_var rfl) (ev_ixS (i := 2 + i % 3) (by omega) hge (ev_var rfl) (ev_is (ev_add ev_c (ev_mod (j := 3) (by decide) (ev_var rfl) ev_c)) (by rw [e3'])))) (ev_var rfl)) fun H11 e11 => ⟨_, _, rfl, e10.trans e11, over_app (over_app vo (over_at fo hge)) vo, ?_⟩
      rw [List.length_append, List.length_append, Nat.pow_succ]
      show v.length + 1 + v.length + 1 ≤ _
      omega
    · intro σ' H' z
      obtain ⟨v, u6, rfl, e10, vo, vz⟩ := z
      have hp5 : (2 : Nat) ^ (8 : Int).toNat = 256 := rfl
      exact out e10 (ev_var rfl) vo (by omega) rfl
  have e16 := e15.trans e7
  have hrl : (List.replicate 200 (cutL fr none (some ((2 : Nat) : Int)))).flatten.length = 400 := by
    rw [rep_len, wl]
  have hR7 := ex_l e7 hR5
  refine q_asg (v := tx (cutL (List.replicate 200 (cutL fr none (some ((2 : Nat) : Int)))).flatten none (some (n : Int)))) (ev_slS (by omega) (ev_mulS (n := 200) (by decide) (by omega) (ev_slS (by omega) (ev_var rfl) eo_none (eo_some (i := ((2 : Nat) : Int)) ev_c)) ev_c) eo_none (eo_some (i := (n : Int)) (ev_var rfl))) fun H8 e8 => ?_
  have ho : ∀ c ∈ cutL (List.replicate 200 (cutL fr none (some ((2 : Nat) : Int)))).flatten none (some (n : Int)), c ∈ al := over_cut (over_rep wo)
  have hcl := cutL_len (l := (List.replicate 200 (cutL fr none (some ((2 : Nat) : Int)))).flatten) (lo := none) (hi := some (n : Int))
  generalize cutL (List.replicate 200 (cutL fr none (some ((2 : Nat) : Int)))).flatten none (some (n : Int)) = md at ho hcl ⊢
  obtain ⟨k, hk, ek⟩ := int_mod (x := at0 r 7) (n := n + 1) (by omega)
  have ek2 : at0 r 7 % ((n : Int) + 1) = (k : Int) := by
    rw [← ek, Int.natCast_add]
    rfl
  refine q_asg (v := .int (k : Int)) (ev_is (ev_mod (j := (n : Int) + 1) (by omega) (ev_int (ev_atI (ex_l e8 hR7) (i := 7) (by omega) rfl (ev_var rfl) ev_c)) (ev_add (ev_var rfl) ev_c)) (by rw [ek2])) fun H9 e9 => ?_
  have hge2 := get_ex (l := fr) (i := 2) (by omega)
  have c1 := cutL_len (l := md) (lo := none) (hi := some (k : Int))
  have c2 := cutL_len (l := md) (lo := some (k : Int)) (hi := none)
  refine s_ret (ev_slS (hi := some ((400 : Nat) : Int)) (l := cutL md none (some (k : Int)) ++ [fr.getD 2 0] ++ cutL md (some (k : Int)) none) (by rw [List.length_append, List.length_append]; show _ + 1 + _ ≤ _; omega) (ev_catS (a := cutL md none (some (k : Int)) ++ [fr.getD 2 0]) (b := cutL md (some (k : Int)) none) (by rw [List.length_append]; show _ + 1 + _ ≤ _; omega) (ev_catS (b := [fr.getD 2 0]) (by show _ + 1 ≤ _; omega) (ev_slS (by omega) (ev_var rfl) eo_none (eo_some (i := (k : Int)) (ev_var rfl))) (ev_ixS (i := 2) (by omega) hge2 (ev_var rfl) ev_c)) (ev_slS (by omega) (ev_var rfl) (eo_some (i := (k : Int)) (ev_var rfl)) eo_none)) eo_none (eo_some ev_c)) fun H10 e10 => q _ (Word.cut (over_app (over_app (over_cut ho) (over_at fo hge2)) (over_cut ho)) (Nat.le_refl _)) H10 ((((e16.trans e8).trans e9)).trans e10)
/-! ### the free word of a script -/
theorem at0_r50 {i : Nat} (h : i < 50) : at0 (List.replicate 50 (6 : Int)) i = 6 := at0_rep h
def spFr (K : PySem.W.Frag) : Sp := fun vs H Q _ => ∃ (s : Addr) (al : List Nat) (ns : List Int) (f n : Nat), vs = [.ref s, .int (f : Int), tx al, .int (n : Int)] ∧ Alf al ∧ SqL K H s (ns.map V.int) ∧ ns.length ≤ 63 ∧ f ≤ 900 ∧ n ≤ 400 ∧ ∀ v, Word al 400 v → RetV (tx v) H Q
theorem has_fr (F : At K mg "_law_free_word" s__law_free_word) (T : Top K mg C_Cut) (h1 : Has P w K mg base "_law_plain_word" s__law_plain_word ["signs", "row", "most"] 1 (spFw K)) (h3 : Has P w K mg base "_law_digits" s__law_digits ["cell", "sizes"] 1 (spDigits K)) (h4 : Has P w K mg base "_law_cell" s__law_cell ["script", "k"] 1 (spCell K)) : Has P w K mg base "_law_free_word" s__law_free_word ["script", "first", "signs", "most"] 2 (spFr K) := by
  obtain ⟨f, fd, F, m⟩ := F.ex
  obtain ⟨f1, fd1, _, G__law_plain_word, b__law_plain_word, m__law_plain_word, k__law_plain_word⟩ := h1
  obtain ⟨f3, fd3, _, G__law_digits, b__law_digits, m__law_digits, k__law_digits⟩ := h3
  obtain ⟨f4, fd4, _, G__law_cell, b__law_cell, m__law_cell, k__law_cell⟩ := h4
  refine ⟨f, fd, F, F.ok S__law_free_word (fun vs H Q E h => ?_) (fun cdv A outer s H vs Q E hr h => ?_), F.binds fun _ _ _ _ _ _ us hl => match us, hl with | [_, _, _, _], _ => rfl, m, F.kp⟩
  · obtain ⟨s0, al, ns, f0, n, rfl, _⟩ := h
    rfl
  obtain ⟨s0, al, ns, f0, n, rfl, hA, hS, h63, hf, hn, q⟩ := h
  refine ⟨_, (pss_cons
    (ps_set (i := 4) S__law_free_word.nd rfl (Or.inl rfl) pe_str)
    (pss_cons
    (ps_for PassesOwn.never rfl (pi_range1 rfl T.z_range (pa_cons pe_int pa_nil)) (pg_name (i := 5) S__law_free_word.nd rfl (Or.inl rfl)) (pss_one
    (ps_set (i := 4) S__law_free_word.nd rfl (Or.inl rfl) (pe_op op_add_str (pv 4) (pe_call G__law_plain_word (hr.mono (by decide)) rfl m__law_plain_word k__law_plain_word b__law_plain_word .nil pass0 (pa_cons (pv 2) (pa_cons (pe_call G__law_digits (hr.mono (by decide)) rfl m__law_digits k__law_digits b__law_digits .nil pass0 (pa_cons (pe_call G__law_cell (hr.mono (by decide)) rfl m__law_cell k__law_cell b__law_cell .nil pass0 (pa_cons (pv 0) (pa_cons (pe_op op_add (pv 1) (pv 5)) pa_nil))) (pa_cons (pe_op op_rep (pe_lst (pa_cons pe_int pa_nil)) pe_int) pa_nil))) (pa_cons pe_int pa_nil))))))))
    (pss_one
    (ps_ret (pe_slice sl_str (pv 4) po_none (po_some (pv 3))))))), ?_⟩
  refine q_asg (v := tx []) (ev_is ev_c (by rw [mt_is])) fun H1 e1 => ?_
  refine q_forR1 (ea_cons ev_c ea_nil) (by decide) (fun i σ' H' => ∃ (v : List Nat) (u : Option V), σ' = [some (.ref s0), some (.int (f0 : Int)), some (tx al), some (.int (n : Int)), some (tx v), u] ∧ Ex H H' ∧ (∀ c ∈ v, c ∈ al) ∧ v.length = 50 * i) ?_ ?_ ?_
  · intro H2 e2
    exact ⟨[], none, rfl, e1.trans e2, (fun c hc => by cases hc), rfl⟩
  · intro i σ' H' hi z
    obtain ⟨v, u, rfl, e2, vo, vz⟩ := z
    have hi2 : i < 8 := by
      have : (i : Int) < 8 := hi
      omega
    have d50 : ∀ i, i < (List.replicate 50 (6 : Int)).length → 0 < at0 (List.replicate 50 (6 : Int)) i ∧ at0 (List.replicate 50 (6 : Int)) i < 18446744073709551616 := fun i hi => by
      rw [List.length_replicate] at hi
      rw [at0_r50 hi]
      decide
    have dl : (digits (cell ns ((f0 : Int) + (i : Int))) (List.replicate 50 6)).length = 50 := by rw [digits_len, List.length_replicate]
    have fo := fwL_over hA (r := digits (cell ns ((f0 : Int) + (i : Int))) (List.replicate 50 6)) (n := 50)
    have fl := fwL_len (al := al) (r := digits (cell ns ((f0 : Int) + (i : Int))) (List.replicate 50 6)) (n := 50)
    refine s_asg (ev_catS (a := v) (b := fwL al (digits (cell ns ((f0 : Int) + (i : Int))) (List.replicate 50 6)) 50) (by rw [fl]; omega) (ev_var rfl) (ev_fw (n := 50) hA (ev_var rfl) (el_digs (ss := List.replicate 50 6) (ev_call (ea_cons (ev_var rfl) (ea_cons (ev_add (ev_var rfl) (ev_var rfl)) ea_nil)) (sv_cell (ex_l e2 hS) h63 (by omega))) (el_eq (el_rep (n := 50) (el_lst (ea_cons ev_c ea_nil) (by show 1 ≤ 100000; decide)) (fun _ _ => ev_c) (by show 1 * 50 ≤ 100000; decide) (by decide)) (by decide +kernel)) (by rw [List.length_replicate]; decide) d50) (fun _ _ => ev_c) (by rw [dl]; exact Nat.le_refl 50) (by decide))) fun H3 e3 => ⟨_, _, rfl, e2.trans e3, over_app vo fo, by rw [List.length_append, fl, vz]; omega⟩
  · intro σ' H' z
    obtain ⟨v, u, rfl, e2, vo, vz⟩ := z
    have e8 : (8 : Int).toNat = 8 := rfl
    exact s_ret (ev_slS (by omega) (ev_var rfl) eo_none (eo_some (i := (n : Int)) (ev_var rfl))) fun H3 e3 => q _ (Word.cut vo hn) H3 (e2.trans e3)
end
end Ver
namespace Ver
open PySem PySem.Spec PyProof.Rows L2 Evl
open PySem.Builtin PySem.Builtin.Str
/-! ### strip, exactly enough -/
def inL (m : List Nat) (c : Nat) : Bool := decide (c ∈ m)
theorem goes_is (m : List Nat) : (SX.S m).cps.contains = inL m := by
  funext c
  unfold inL
  show (m.toArray).contains c = _
  simp
theorem drop_take {p : Nat → Bool} (l : List Nat) : l.drop (l.takeWhile p).length = l.dropWhile p := by
  induction l with
  | nil => rfl
  | cons a r ih =>
    rw [List.takeWhile_cons, List.dropWhile_cons]
    cases p a
    · rfl
    · exact ih
theorem tw_all {p : Nat → Bool} : ∀ (l : List Nat) (c : Nat), c ∈ l.takeWhile p → p c = true
  | [], c, h => by cases h
  | a :: r, c, h => by
    rw [List.takeWhile_cons] at h
    cases q : p a with
    | false =>
      rw [q] at h
      cases h
    | true =>
      rw [q] at h
      rcases List.mem_cons.mp h with rfl | h
      · exact q
      · exact tw_all r c h
theorem dw_head {p : Nat → Bool} : ∀ (l : List Nat) (a : Nat) (r : List Nat), l.dropWhile p = a :: r → p a = false
  | [], a, r, h => by cases h
  | b :: l, a, r, h => by
    rw [List.dropWhile_cons] at h
    cases q : p b with
    | false =>
      rw [q] at h
      cases h
      exact q
    | true =>
      rw [q] at h
      exact dw_head l a r h
theorem strSub_S (l : List Nat) (a b : Nat) : strSub (SX.S l) a b = SX.S ((l.take b).drop a) := by
  unfold strSub
  rw [← SX.S_tl ((⟨(SX.S l).cps.extract a b⟩ : Str))]
  congr 1
  show (l.toArray.extract a b).toList = _
  simp [List.extract_eq_drop_take, List.drop_take]
theorem lstrip_is (l m : List Nat) : Txt.lstripChars (SX.S l) (SX.S m) = SX.S (l.dropWhile (inL m)) := by
  unfold Txt.lstripChars
  rw [goes_is]
  unfold Txt.stripBy stripSame stripped
  have hlo : stripLo (inL m) true (SX.S l) = (l.takeWhile (inL m)).length := by
    unfold stripLo
    rw [if_pos rfl]
  have hhi : ∀ k, stripHi (inL m) false (SX.S l) k = l.length := fun k => by
    unfold stripHi
    rw [if_neg (by decide), SX.S_len]
  rw [hlo, hhi, SX.S_len, strSub_S, List.take_length, drop_take]
  by_cases c : (l.takeWhile (inL m)).length = 0
  · rw [if_pos (by rw [c]; simp)]
    have e := List.takeWhile_append_dropWhile (p := inL m) (l := l)
    rw [List.length_eq_zero_iff.mp c, List.nil_append] at e
    rw [e]
  · rw [if_neg (by simp; intro h; exact absurd (List.length_eq_zero_iff.mpr h) (by simpa using c))]
theorem strip_some {l m : List Nat} (h : ∃ c ∈ l, c ∉ m) : Txt.stripChars (SX.S l) (SX.S m) ≠ SX.S [] := by
  obtain ⟨c, hc, hm⟩ := h
  unfold Txt.stripChars
  rw [goes_is]
  unfold Txt.stripBy stripSame stripped
  have hlo : stripLo (inL m) true (SX.S l) = (l.takeWhile (inL m)).length := by
    unfold stripLo
    rw [if_pos rfl]
  rw [hlo]
  have e := List.takeWhile_append_dropWhile (p := inL m) (l := l)
  have hd : ∃ a r, l.dropWhile (inL m) = a :: r ∧ inL m a = false := by
    cases hq : l.dropWhile (inL m) with
    | nil =>
      rw [hq, List.append_nil] at e
      have : c ∈ l.takeWhile (inL m) := by rw [e]; exact hc
      exact absurd (of_decide_eq_true (tw_all l c this)) hm
    | cons a r =>
      refine ⟨a, r, rfl, ?_⟩
      exact dw_head l a r hq
  obtain ⟨a, r, hq, ha⟩ := hd
  have hlen : (l.takeWhile (inL m)).length + (r.length + 1) = l.length := by
    have := congrArg List.length e
    rw [List.length_append, hq, List.length_cons] at this
    omega
  have hhi : stripHi (inL m) true (SX.S l) (l.takeWhile (inL m)).length = l.length - ((a :: r).reverse.takeWhile (inL m)).length := by
    unfold stripHi
    rw [if_pos rfl, SX.S_len]
    show l.length - ((l.drop _).reverse.takeWhile _).length = _
    rw [drop_take, hq]
  have hlt : ((a :: r).reverse.takeWhile (inL m)).length ≤ r.length := by
    rw [List.reverse_cons, List.takeWhile_append]
    split
    · rw [List.takeWhile_cons, if_neg (by rw [ha]; decide), List.append_nil, List.length_reverse]
      exact Nat.le_refl _
    · have := (List.takeWhile_sublist (p := inL m) (l := r.reverse)).length_le
      rw [List.length_reverse] at this
      exact this
  rw [hhi]
  split
  · intro z
    have z2 := SX.S_inj z
    rw [z2] at hc
    cases hc
  · rw [strSub_S]
    intro z
    have z2 := congrArg List.length (SX.S_inj z)
    rw [List.length_drop, List.length_take, List.length_nil] at z2
    omega
theorem asc_of : ∀ l : List Nat, (∀ i, i + 1 < l.length → l.getD i 0 < l.getD (i + 1) 0) → l.Pairwise (· < ·)
  | [], _ => .nil
  | [a], _ => by simp
  | a :: b :: r, h => by
    have ih := asc_of (b :: r) fun i hi => h (i + 1) (by simpa using hi)
    have h0 : a < b := h 0 (by simp)
    refine .cons (fun c hc => ?_) ih
    rcases List.mem_cons.mp hc with rfl | hc
    · exact h0
    · exact Nat.lt_trans h0 ((List.pairwise_cons.mp ih).1 c hc)
/-- the first letter that is none of al stands at k -/
def bad1 (al v : List Nat) (k : Nat) : Prop := k = (v.takeWhile (inL al)).length ∧ k < v.length
theorem bad1_rest {al v : List Nat} {k : Nat} (h : bad1 al v k) : (v.dropWhile (inL al)).length = v.length - k ∧ v.dropWhile (inL al) ≠ [] := by
  obtain ⟨rfl, hk⟩ := h
  have e := List.takeWhile_append_dropWhile (p := inL al) (l := v)
  have := congrArg List.length e
  rw [List.length_append] at this
  refine ⟨by omega, fun z => ?_⟩
  rw [z] at this
  simp at this
  omega
theorem bad1_mk {al a b : List Nat} {c : Nat} (ha : ∀ x ∈ a, x ∈ al) (hc : c ∉ al) : bad1 al (a ++ c :: b) a.length := by
  have : (a ++ c :: b).takeWhile (inL al) = a := by
    rw [List.takeWhile_append_of_pos (p := inL al) fun x hx => decide_eq_true (ha x hx), List.takeWhile_cons, if_neg (by unfold inL; simpa using hc), List.append_nil]
  exact ⟨by rw [this], by simp⟩
end Ver
namespace Ver
open PySem PySem.Spec PyProof.Rows L2 Evl
def csA : List Nat := (List.range 5).map (· + 32) ++ (List.range 59).map (· + 38)
def csB : List Nat := (List.range 30).map (· + 97) ++ [10]
theorem csA_is : Str.ofString " !\"#$&'()*+,-./0123456789:;<=>?@ABCDEFGHIJKLMNOPQRSTUVWXYZ[\\]^_`" = SX.S csA := by decide +kernel
theorem csB_is : Str.ofString "abcdefghijklmnopqrstuvwxyz{|}~\n" = SX.S csB := by decide +kernel
def csC : List Nat := csA ++ csB
theorem csC_len : csC.length = 95 := by decide +kernel
theorem csC_low : ∀ c ∈ csC, c < 128 := by decide +kernel
theorem Alf.low {al : List Nat} (hA : Alf al) : ∀ c ∈ al, c < 128 := fun c hc => by
  have := hA.let' c hc
  omega
def low (v : List Nat) : Prop := ∀ c ∈ v, c < 128
theorem low.app {a b : List Nat} (h1 : low a) (h2 : low b) : low (a ++ b) := fun c hc => (List.mem_append.mp hc).elim (h1 c) (h2 c)
theorem low.cut {l : List Nat} {lo hi : Option Int} (h : low l) : low (cutL l lo hi) := fun c hc => h c (cutL_sub c hc)
theorem low.one {c : Nat} (h : c < 128) : low [c] := fun d hd => by
  rw [List.mem_singleton.mp hd]
  exact h
theorem low.of {al v : List Nat} (hA : Alf al) (h : ∀ c ∈ v, c ∈ al) : low v := fun c hc => hA.low c (h c hc)
/-! ### where a sign stands among the 36 -/
def fidx (c : Nat) : Int := if c ∈ figs then (figs.idxOf c : Int) else -1
theorem find_fig : ∀ c, c < 128 → Txt.find (SX.S figs) (SX.S [c]) = fidx c := by decide +kernel
theorem figs_asc : figs.Pairwise (· < ·) := by decide +kernel
theorem fidx_pos {c : Nat} : 0 ≤ fidx c ↔ c ∈ figs := by
  unfold fidx
  split
  · rename_i h
    exact ⟨fun _ => h, fun _ => Int.natCast_nonneg _⟩
  · rename_i h
    exact ⟨fun z => by omega, fun z => absurd z h⟩
theorem fidx_lt {c d : Nat} (hc : c ∈ figs) (hd : d ∈ figs) : fidx c < fidx d ↔ c < d := by
  have := idx_lt figs_asc hc hd
  unfold fidx
  rw [if_pos hc, if_pos hd]
  omega
theorem figs_all {c : Nat} (h : (48 ≤ c ∧ c ≤ 57) ∨ (97 ≤ c ∧ c ≤ 122)) : c ∈ figs := by
  have k : ∀ c, c < 123 → (48 ≤ c ∧ c ≤ 57) ∨ (97 ≤ c ∧ c ≤ 122) → c ∈ figs := by decide +kernel
  exact k c (by omega) h
theorem alf_figs {v : List Nat} (h1 : 1 ≤ v.length) (h6 : v.length ≤ 6) : Alf v ↔ (∀ i, i < v.length → 0 ≤ fidx (v.getD i 0)) ∧ ∀ i, i + 1 < v.length → fidx (v.getD i 0) < fidx (v.getD (i + 1) 0) := by
  have gd : ∀ i (hi : i < v.length), v.getD i 0 = v[i] := fun i hi => by
    rw [List.getD_eq_getElem?_getD, List.getElem?_eq_getElem hi]
    rfl
  constructor
  · intro hA
    have hf : ∀ i (hi : i < v.length), v[i] ∈ figs := fun i hi => figs_all (hA.let' _ (List.getElem_mem hi))
    refine ⟨fun i hi => ?_, fun i hi => ?_⟩
    · rw [gd i hi]
      exact fidx_pos.mpr (hf i hi)
    · have h0 : i < v.length := by omega
      rw [gd i h0, gd (i + 1) hi]
      exact (fidx_lt (hf i h0) (hf _ hi)).mpr (List.pairwise_iff_getElem.mp hA.asc i (i + 1) h0 hi (by omega))
  · rintro ⟨p, q⟩
    have hf : ∀ i (hi : i < v.length), v[i] ∈ figs := fun i hi => fidx_pos.mp (by have := p i hi; rw [gd i hi] at this; exact this)
    refine ⟨asc_of v fun i hi => ?_, h1, h6, fun c hc => ?_⟩
    · have h0 : i < v.length := by omega
      have := q i hi
      rw [gd i h0, gd (i + 1) hi] at this
      rw [gd i h0, gd (i + 1) hi]
      exact (fidx_lt (hf i h0) (hf _ hi)).mp this
    · obtain ⟨i, hi, rfl⟩ := List.mem_iff_getElem.mp hc
      exact figs_let _ (hf i hi)
theorem perm_signs : ∀ {ys : List Str} {cs : List Nat}, ys.Perm (cs.map fun c => SX.S [c]) → ∃ ds : List Nat, ys = ds.map (fun c => SX.S [c]) ∧ ds.Perm cs := by
  intro ys cs hp
  let g : Str → Nat := fun s => s.cps.toList.headD 0
  have hg : ∀ c, g (SX.S [c]) = c := fun c => rfl
  have hy : ys = (ys.map g).map fun c => SX.S [c] := by
    rw [List.map_map]
    have : ∀ y ∈ ys, ((fun c => SX.S [c]) ∘ g) y = y := fun y hy => by
      obtain ⟨c, _, rfl⟩ := List.mem_map.mp (hp.mem_iff.mp hy)
      rfl
    exact (List.map_id' ys).symm.trans (List.map_congr_left fun y h => (this y h).symm)
  refine ⟨ys.map g, hy, ?_⟩
  have h := hp.map g
  rw [List.map_map] at h
  have e : cs.map (g ∘ fun c => SX.S [c]) = cs := (List.map_congr_left fun c _ => hg c).trans (List.map_id' cs)
  rw [e] at h
  exact h
/-! ### the first strange sign -/
theorem tw_len {al : List Nat} : ∀ {v : List Nat} {i : Nat}, i < v.length → (∀ j, j < i → v.getD j 0 ∈ al) → v.getD i 0 ∉ al → (v.takeWhile (inL al)).length = i
  | [], i, h, _, _ => by simp at h
  | c :: v, 0, _, _, hn => by
    have hc : inL al c = false := decide_eq_false hn
    rw [List.takeWhile_cons, hc]
    rfl
  | c :: v, i + 1, h, hin, hn => by
    have hc : inL al c = true := decide_eq_true (hin 0 (Nat.succ_pos i))
    rw [List.takeWhile_cons, hc]
    show (v.takeWhile (inL al)).length + 1 = i + 1
    rw [tw_len (v := v) (i := i) (by simpa using h) (fun j hj => hin (j + 1) (by omega)) hn]
theorem bad1_uniq {al v : List Nat} {k i : Nat} (h : bad1 al v k) (hi : i < v.length) (hin : ∀ j, j < i → v.getD j 0 ∈ al) (hn : v.getD i 0 ∉ al) : k = i := h.1.trans (tw_len hi hin hn)
theorem tw_full {al : List Nat} : ∀ {v : List Nat}, (∀ c ∈ v, inL al c = true) → v.takeWhile (inL al) = v
  | [], _ => rfl
  | c :: v, h => by
    rw [List.takeWhile_cons, h c (List.mem_cons_self ..)]
    show c :: v.takeWhile (inL al) = c :: v
    rw [tw_full fun d hd => h d (List.mem_cons_of_mem _ hd)]
theorem bad1_none {al v : List Nat} {k : Nat} (hin : ∀ j, j < v.length → v.getD j 0 ∈ al) : ¬ bad1 al v k := fun h => by
  have e : v.takeWhile (inL al) = v := tw_full fun c hc => by
    obtain ⟨j, hj, rfl⟩ := List.mem_iff_getElem.mp hc
    have := hin j hj
    rw [List.getD_eq_getElem?_getD, List.getElem?_eq_getElem hj] at this
    exact decide_eq_true this
  have h1 := h.1
  have h2 := h.2
  rw [e] at h1
  omega
/-! ### signs that are not in an alphabet -/
theorem out_pos {al l : List Nat} {c : Nat} (hc : c ∈ l) (h : c ∉ al) : 0 < (l.filter fun c => !decide (c ∈ al)).length := List.length_pos_of_mem (List.mem_filter.mpr ⟨hc, by rw [decide_eq_false h]; rfl⟩)
theorem figs_out {al : List Nat} (hA : Alf al) : ∃ c, c ∈ figs ∧ c ∉ al := Classical.byContradiction fun hn => by
  have h := nodup_sub figs al figs_nd fun x hx => Classical.byContradiction fun z => hn ⟨x, hx, z⟩
  have h6 := hA.six
  have e : figs.length = 36 := rfl
  omega
theorem filt_at {al l : List Nat} {k : Nat} (hk : k < (l.filter fun c => !decide (c ∈ al)).length) : ∃ c, c ∈ l ∧ c ∉ al ∧ ((l.filter fun c => !decide (c ∈ al)).map fun c => tx [c])[k]? = some (tx [c]) := by
  refine ⟨(l.filter fun c => !decide (c ∈ al))[k], ?_, ?_, by rw [List.getElem?_map, List.getElem?_eq_getElem hk]; rfl⟩
  · exact (List.mem_filter.mp (List.getElem_mem hk)).1
  · have := (List.mem_filter.mp (List.getElem_mem hk)).2
    rw [Bool.not_eq_true'] at this
    exact of_decide_eq_false this
/-- a list of the signs of a text that are not in the alphabet -/
theorem el_out {σ : L2.St} {H : Hp} {tl : TE} {j i : Nat} {vs : List Nat} {al x : List Nat} (h : Ev tl σ H (tx x)) (hz : x.length ≤ 1000) (hw : ∀ a, wipe ((wipe σ vs).set j (some a)) vs = wipe σ vs)
    (h1 : ∀ a : V, ((wipe σ vs).set j (some a))[i]? = some (some (tx al))) (h2 : ∀ a : V, ((wipe σ vs).set j (some a))[j]? = some (some a)) :
    EvL (tLc (iStr tl) (gName j) (tTest (tOp (fun x y H Q => ∃ (c : Nat) (z : Str), x = .str ⟨#[c]⟩ ∧ y = .str z ∧ Q (.bl (!decide (c ∈ z.cps.toList))) H) (tVar j) (tVar i))) (tVar j) vs) σ H ((x.filter fun c => !decide (c ∈ al)).map fun c => tx [c]) :=
  el_lcSF (fun c => !decide (c ∈ al)) (fun c => tx [c]) h (by omega) hw (fun i c H1 e hc => et_test (ev_op (ev_var (h2 _)) (ev_var (h1 _)) rv_niSign)) fun i c H1 e hc => ev_var (h2 _)
section
variable {P : Program} {w : World} {K : PySem.W.Frag} {mg : Str → Option Value} {base : Heap} {C_Cut : Addr}
/-! ### _law_characters -/
def spCh : Sp := fun vs H Q _ => vs = [] ∧ RetV (tx csC) H Q
theorem has_ch (F : At K mg "_law_characters" s__law_characters) (T : Top K mg C_Cut) : Has P w K mg base "_law_characters" s__law_characters [] 1 spCh := by
  obtain ⟨f, fd, F, m⟩ := F.ex
  refine ⟨f, fd, F, F.ok S__law_characters (fun vs H Q E h => ?_) (fun cdv A outer s H vs Q E hr h => ?_), F.binds fun _ _ _ _ _ _ us hl => match us, hl with | [], _ => rfl, m, F.kp⟩
  · obtain ⟨rfl, _⟩ := h
    rfl
  obtain ⟨rfl, q⟩ := h
  refine ⟨_, (pss_cons
    (ps_set (i := 0) S__law_characters.nd rfl (Or.inl rfl) pe_str)
    (pss_one
    (ps_ret (pe_op op_add_str (pv 0) pe_str)))), ?_⟩
  refine q_asg (v := tx csA) (ev_is ev_c (by rw [csA_is])) fun H1 e1 => ?_
  exact s_ret (ev_catS (a := csA) (b := csB) (by decide +kernel) (ev_var rfl) (ev_is ev_c (by rw [csB_is]))) fun H2 e2 => q H2 (e1.trans e2)
theorem ev_ch {σ : L2.St} {H : Hp} : Ev (tCall spCh [] E0 tNil) σ H (tx csC) := ev_call (vs := []) ea_nil fun H1 e1 Q q _ => ⟨rfl, q⟩
/-! ### _law_is_alphabet -/
def spIa : Sp := fun vs H Q _ => ∃ (v : List Nat) (b : Bool), vs = [tx v] ∧ low v ∧ v.length ≤ 1000 ∧ (b = true ↔ Alf v) ∧ RetV (.bl b) H Q
theorem has_ia (F : At K mg "_law_is_alphabet" s__law_is_alphabet) (T : Top K mg C_Cut) : Has P w K mg base "_law_is_alphabet" s__law_is_alphabet ["word"] 1 spIa := by
  obtain ⟨f, fd, F, m⟩ := F.ex
  refine ⟨f, fd, F, F.ok S__law_is_alphabet (fun vs H Q E h => ?_) (fun cdv A outer s H vs Q E hr h => ?_), F.binds fun _ _ _ _ _ _ us hl => match us, hl with | [_], _ => rfl, m, F.kp⟩
  · obtain ⟨v, b, rfl, _⟩ := h
    rfl
  obtain ⟨v, b, rfl, hv, hz, hb, q⟩ := h
  refine ⟨_, (pss_cons
    (ps_set (i := 1) S__law_is_alphabet.nd rfl (Or.inl rfl) pe_str)
    (pss_cons
    (ps_if (PW.pt (pw_or (pt_cmpR op_lt (pe_callB call_len_str rfl T.z_len PySem.boot_len (pa_cons (pv 0) pa_nil)) pe_int (nomark _)) (pw_or1 (pt_cmpR op_gt (pe_callB call_len_str rfl T.z_len PySem.boot_len (pa_cons (pv 0) pa_nil)) pe_int (nomark _))))) (pss_one
    (ps_ret pe_bl)) pss_nil)
    (pss_cons
    (ps_set (i := 2) S__law_is_alphabet.nd rfl (Or.inl rfl) (pe_un un_neg pe_int))
    (pss_cons
    (ps_for PassesOwn.never rfl (pi_str (pv 0)) (pg_name (i := 3) S__law_is_alphabet.nd rfl (Or.inl rfl)) (pss_cons
    (ps_set (i := 4) S__law_is_alphabet.nd rfl (Or.inl rfl) (pe_bm PySem.F.plainAttrs_str PySem.F.slot_str_find PySem.F.type_str_find mt_find (pv 1) (pa_cons (pv 3) pa_nil)))
    (pss_cons
    (ps_if (pt_cmpR op_le (pv 4) (pv 2) (nomark _)) (pss_one
    (ps_ret pe_bl)) pss_nil)
    (pss_one
    (ps_set (i := 2) S__law_is_alphabet.nd rfl (Or.inl rfl) (pv 4))))))
    (pss_one
    (ps_ret pe_bl)))))), ?_⟩
  have no : ¬ Alf v → b = false := fun h => by
    cases b with
    | false => rfl
    | true => exact absurd (hb.mp rfl) h
  refine q_asg (v := tx figs) (ev_is ev_c (by rw [figs_is])) fun H1 e1 => ?_
  refine q_when (et_or (et_lt (ev_lenS (by omega) (ev_var rfl)) ev_c) (fun _ => et_gt (ev_lenS (by omega) (ev_var rfl)) ev_c)) (fun hc H2 e2 => ?_) (fun hc H2 e2 => ?_)
  · have hn : ¬ Alf v := fun hA => by
      have h1 := hA.pos
      have h6 := hA.six
      rcases (Bool.or_eq_true _ _).mp hc with hc | hc
      · have := of_decide_eq_true hc
        omega
      · have := of_decide_eq_true hc
        omega
    rw [no hn] at q
    exact s_ret ev_c fun H3 e3 => q H3 ((e1.trans e2).trans e3)
  have hl : 1 ≤ v.length ∧ v.length ≤ 6 := by
    rw [Bool.or_eq_false_iff] at hc
    have h1 := of_decide_eq_false hc.1
    have h2 := of_decide_eq_false hc.2
    omega
  have hiff := alf_figs hl.1 hl.2
  have e12 := e1.trans e2
  refine q_asg (v := .int (-1)) (ev_is (ev_un ev_c ru_neg) rfl) fun H3 e3 => ?_
  refine q_forS (z := SX.S v) (ev_var rfl) (fun i σ' H' => (∃ u3 u4, σ' = [some (tx v), some (tx figs), some (.int (if i = 0 then -1 else fidx (v.getD (i - 1) 0))), u3, u4]) ∧ Ex H H' ∧ (∀ j, j < i → 0 ≤ fidx (v.getD j 0)) ∧ ∀ j, j + 1 < i → fidx (v.getD j 0) < fidx (v.getD (j + 1) 0)) ?_ ?_ ?_
  · intro H4 e4
    exact ⟨⟨none, none, rfl⟩, (e12.trans e3).trans e4, fun j hj => absurd hj (Nat.not_lt_zero _), fun j hj => absurd hj (Nat.not_lt_zero _)⟩
  · intro i c σ' H' hci p
    obtain ⟨⟨u3, u4, rfl⟩, e4, p1, p2⟩ := p
    have hc2 : v[i]? = some c := hci
    have hi := (List.getElem?_eq_some_iff.mp hc2).1
    have gd : v.getD i 0 = c := by
      rw [List.getD_eq_getElem?_getD, hc2]
      rfl
    have hlow := hv c (List.mem_of_getElem? hc2)
    refine q_asg (v := .int (fidx c)) (ev_bm (ev_var rfl) (fun _ _ => rfl) (ea_cons (ev_var rfl) ea_nil) fun H2 _ Q' q' => ⟨SX.S figs, SX.S [c], rfl, rfl, by rw [find_fig c hlow]; exact q' H2 (Ex.refl H2)⟩) fun H5 e5 => ?_
    refine q_when (et_le (ev_var rfl) (ev_var rfl)) (fun hc H6 e6 => ?_) (fun hc H6 e6 => ?_)
    · have hle := of_decide_eq_true hc
      have hn : ¬ Alf v := fun hA => by
        obtain ⟨a1, a2⟩ := hiff.mp hA
        have := a1 i hi
        rw [gd] at this
        by_cases c0 : i = 0
        · rw [if_pos c0] at hle
          omega
        · rw [if_neg c0] at hle
          have h2 := a2 (i - 1) (by omega)
          have e : i - 1 + 1 = i := by omega
          rw [e, gd] at h2
          omega
      rw [no hn] at q
      exact s_ret ev_c fun H7 e7 => q H7 (((e4.trans e5).trans e6).trans e7)
    · have hlt := of_decide_eq_false hc
      refine s_asg (ev_var rfl) fun H7 e7 => ⟨⟨some (tx [c]), some (.int (fidx c)), ?_⟩, ((e4.trans e5).trans e6).trans e7, fun j hj => ?_, fun j hj => ?_⟩
      · rw [if_neg (Nat.succ_ne_zero i), Nat.add_sub_cancel, gd]
        rfl
      · by_cases c0 : j < i
        · exact p1 j c0
        · have : j = i := by omega
          subst this
          rw [gd]
          by_cases c1 : j = 0
          · rw [if_pos c1] at hlt
            omega
          · rw [if_neg c1] at hlt
            have := p1 (j - 1) (by omega)
            omega
      · by_cases c0 : j + 1 < i
        · exact p2 j c0
        · have : i = j + 1 := by omega
          subst this
          rw [if_neg (Nat.succ_ne_zero j), Nat.add_sub_cancel] at hlt
          rw [gd]
          omega
  · intro σ' H' p
    obtain ⟨⟨u3, u4, rfl⟩, e4, p1, p2⟩ := p
    have ez : (SX.S v).cps.size = v.length := by
      show v.toArray.size = _
      simp
    rw [ez] at p1 p2
    have hb2 : b = true := hb.mpr (hiff.mpr ⟨p1, p2⟩)
    rw [hb2] at q
    exact s_ret ev_c fun H5 e5 => q H5 (e4.trans e5)
/-! ### _law_stray -/
def spFs : Sp := fun vs H Q _ => ∃ (al v : List Nat) (r : Int), vs = [tx al, tx v] ∧ v.length ≤ 90000 ∧ ((r = -1 ∧ ∀ c ∈ v, c ∈ al) ∨ ∃ k : Nat, r = (k : Int) ∧ bad1 al v k) ∧ RetV (.int r) H Q
theorem has_fs (F : At K mg "_law_stray" s__law_stray) (T : Top K mg C_Cut) : Has P w K mg base "_law_stray" s__law_stray ["signs", "word"] 1 spFs := by
  obtain ⟨f, fd, F, m⟩ := F.ex
  refine ⟨f, fd, F, F.ok S__law_stray (fun vs H Q E h => ?_) (fun cdv A outer s H vs Q E hr h => ?_), F.binds fun _ _ _ _ _ _ us hl => match us, hl with | [_, _], _ => rfl, m, F.kp⟩
  · obtain ⟨al, v, r, rfl, _⟩ := h
    rfl
  obtain ⟨al, v, r, rfl, hz, hr2, q⟩ := h
  refine ⟨_, (pss_cons
    (ps_for PassesOwn.never rfl (pi_range1 rfl T.z_range (pa_cons (pe_callB call_len_str rfl T.z_len PySem.boot_len (pa_cons (pv 1) pa_nil)) pa_nil)) (pg_name (i := 2) S__law_stray.nd rfl (Or.inl rfl)) (pss_one
    (ps_if (pt_cmpR op_notIn_sign (pe_ix ix_str (pv 1) (pv 2) (fun _ _ => rfl)) (pv 0) rfl) (pss_one
    (ps_ret (pv 2))) pss_nil)))
    (pss_one
    (ps_ret (pe_un un_neg pe_int)))), ?_⟩
  refine q_forR1 (n := (v.length : Int)) (ea_cons (ev_lenS (by omega) (ev_var rfl)) ea_nil) (by omega) (fun i σ' H' => (∃ u, σ' = [some (tx al), some (tx v), u]) ∧ Ex H H' ∧ ∀ j, j < i → v.getD j 0 ∈ al) ?_ ?_ ?_
  · intro H1 e1
    exact ⟨⟨none, rfl⟩, e1, fun j hj => absurd hj (Nat.not_lt_zero _)⟩
  · intro i σ' H' hi z
    obtain ⟨⟨u, rfl⟩, e1, hin⟩ := z
    have hi2 : i < v.length := by omega
    refine s_when (et_test (ev_op (ev_ixS (i := i) (c := v.getD i 0) (by omega) (get_ex hi2) (ev_var rfl) (ev_var rfl)) (ev_var rfl) rv_niSign)) (fun hb H2 e2 => ?_) (fun hb H2 e2 => ?_)
    · rw [Bool.not_eq_true'] at hb
      have hb := of_decide_eq_false hb
      have er : r = (i : Int) := by
        rcases hr2 with ⟨_, h⟩ | ⟨k, rfl, hk⟩
        · exact absurd (h _ (List.mem_of_getElem? (get_ex hi2))) hb
        · have := bad1_uniq hk hi2 hin hb
          rw [this]
      rw [er] at q
      exact s_ret (ev_var rfl) fun H3 e3 => q H3 ((e1.trans e2).trans e3)
    · rw [Bool.not_eq_false'] at hb
      have hb := of_decide_eq_true hb
      refine ⟨⟨_, rfl⟩, e1.trans e2, fun j hj => ?_⟩
      by_cases c : j < i
      · exact hin j c
      · have : j = i := by omega
        rw [this]
        exact hb
  · intro σ' H' z
    obtain ⟨⟨u, rfl⟩, e1, hin⟩ := z
    rw [Int.toNat_natCast] at hin
    have er : r = -1 := by
      rcases hr2 with ⟨h, _⟩ | ⟨k, rfl, hk⟩
      · exact h
      · exact absurd hk (bad1_none hin)
    rw [er] at q
    exact s_ret (ev_is (ev_un ev_c ru_neg) rfl) fun H3 e3 => q H3 (e1.trans e3)
end
end Ver
namespace Ver
open PySem PySem.Spec PyProof.Rows L2 Evl
/-! ### upper -/
def upc (c : Nat) : Nat := if 97 ≤ c then c - 32 else c
theorem upc_is : ∀ c ∈ figs, Unicode.upperOf c = [upc c] := by decide +kernel
theorem upc_low : ∀ c ∈ figs, upc c < 128 := by decide +kernel
theorem upper_is {l : List Nat} (h : ∀ c ∈ l, c ∈ figs) : Txt.upper (SX.S l) = SX.S (l.map upc) := by
  have key : ∀ l : List Nat, (∀ c ∈ l, c ∈ figs) → (l.map fun c => Unicode.upperOf c).flatten = l.map upc := fun l => by
    induction l with
    | nil => exact fun _ => rfl
    | cons c r ih =>
      intro h
      rw [List.map_cons, List.flatten_cons, upc_is c (h c (List.mem_cons_self ..)), ih fun d hd => h d (List.mem_cons_of_mem _ hd)]
      rfl
  show (⟨(l.toArray.mapIdx fun _ c => (Unicode.upperOf c).toArray).flatten⟩ : Str) = ⟨(l.map upc).toArray⟩
  congr 1
  apply Array.toList_inj.mp
  rw [Array.toList_flatten, Array.toList_mapIdx]
  have e : List.map Array.toList (List.mapIdx (fun _ c => (Unicode.upperOf c).toArray) l) = l.map fun c => Unicode.upperOf c := by
    rw [List.mapIdx_eq_zipIdx_map, List.map_map]
    have : (Array.toList ∘ fun (x : Nat × Nat) => (Unicode.upperOf x.1).toArray) = (fun c => Unicode.upperOf c) ∘ Prod.fst := by
      funext x
      simp
    rw [this, ← List.map_map, List.zipIdx_map_fst]
  show (List.map Array.toList (List.mapIdx (fun _ c => (Unicode.upperOf c).toArray) l)).flatten = _
  rw [e, key l h]
theorem alf_figs_in {al : List Nat} (hA : Alf al) : ∀ c ∈ al, c ∈ figs := fun c hc => figs_all (hA.let' c hc)
section
variable {K : PySem.W.Frag} {σ : L2.St} {H : Hp} {ta tb te tl : TE} {xs : List V} {y z : V}
theorem ev_opN {r : R2} (ha : EvL ta σ H xs) (hb : ∀ H1, Ex H H1 → Ev tb σ H1 y) (hr : ∀ p H1, Ex H H1 → H1 p = some (.lst xs) → RV r (.ref p) y H1 z) : Ev (tOp r ta tb) σ H z := fun H1 e Q q =>
  ha H1 e _ fun p H2 hp e2 g2 => hb H2 (e.trans e2) H2 (Ex.refl H2) _ fun H3 e3 => hr p H3 ((e.trans e2).trans e3) (e3 _ _ g2) H3 (Ex.refl H3) Q fun H4 e4 => q H4 ((e2.trans e3).trans e4)
theorem ev_upper {l : List Nat} (h : Ev ta σ H (tx l)) (hl : ∀ c ∈ l, c ∈ figs) (hz : l.length ≤ 1000) : Ev (tM0 (fun x xs H Q => ∃ a, x = .str a ∧ xs = [] ∧ a.length ≤ 5592405 ∧ Q (.str (Txt.upper a)) H) ta) σ H (tx (l.map upc)) := fun H1 e Q q =>
  h H1 e _ fun H2 e2 => ⟨⟨_, rfl⟩, SX.S l, rfl, rfl, by rw [SX.S_len]; omega, by rw [upper_is hl]; exact q H2 e2⟩
/-- a list made over a new list -/
theorem el_lcNew {j : Nat} {vs : List Nat} (v : Nat → V) (h : EvL tl σ H xs) (hz : xs.length ≤ 40000) (hw : ∀ a, wipe ((wipe σ vs).set j (some a)) vs = wipe σ vs)
    (he : ∀ (i : Nat) (x : V) H1, Ex H H1 → xs[i]? = some x → Ev te ((wipe σ vs).set j (some x)) H1 (v i)) : EvL (tLc (iList K tl) (gName j) tYes te vs) σ H ((List.range xs.length).map v) := fun H0 e Q q => h H0 e _ fun p H1 hp e1 g1 => ⟨p, rfl, ⟨xs, sq_of g1⟩, fun Dl hD => by
  have hne : Dl ≠ p := fun z => by
    rw [z, g1] at hD
    cases hD
  refine lc_it (walk_list (xs := xs)) (Cw H1 (fun _ => true) v Dl) ⟨hD, Ex.new hD, upd_same⟩ (fun i H' _ q' => sq_of (q'.2.1 _ _ g1)) (fun i z H' H2 hi q' yp => ?_) (fun H' q' => ?_)
  · obtain ⟨rfl, hx⟩ := yp
    exact ⟨hw _, cw_turn q' (by omega) et_yes fun _ => he i z H1 (e.trans e1) hx⟩
  · have p3 := q'.2.2
    rw [given_all] at p3
    exact q Dl H' (fresh_back e1 q'.1) (e1.trans q'.2.1) p3⟩
end
section
variable {P : Program} {w : World} {K : PySem.W.Frag} {mg : Str → Option Value} {base : Heap} {C_Cut : Addr}
/-! ### _law_spoilt_word -/
def spSpw (K : PySem.W.Frag) : Sp := fun vs H Q _ => ∃ (v : List Nat) (a : Addr) (r : List Int), vs = [tx v, .ref a] ∧ low v ∧ v.length ≤ 400 ∧ SqL K H a (r.map V.int) ∧ r.length = 10 ∧ (0 ≤ at0 r 0 ∧ at0 r 0 < 3) ∧ (∀ k, k < 3 → (0 ≤ at0 r (2 + 3 * k) ∧ at0 r (2 + 3 * k) < 95) ∧ 0 ≤ at0 r (3 + 3 * k) ∧ at0 r (3 + 3 * k) < 2) ∧ ∀ u, low u → u.length ≤ 400 → RetV (tx u) H Q
theorem has_spw (F : At K mg "_law_spoilt_word" s__law_spoilt_word) (T : Top K mg C_Cut) (h1 : Has P w K mg base "_law_characters" s__law_characters [] 1 spCh) : Has P w K mg base "_law_spoilt_word" s__law_spoilt_word ["word", "row"] 2 (spSpw K) := by
  obtain ⟨f, fd, F, m⟩ := F.ex
  obtain ⟨f1, fd1, _, G__law_characters, b__law_characters, m__law_characters, k__law_characters⟩ := h1
  refine ⟨f, fd, F, F.ok S__law_spoilt_word (fun vs H Q E h => ?_) (fun cdv A outer s H vs Q E hr h => ?_), F.binds fun _ _ _ _ _ _ us hl => match us, hl with | [_, _], _ => rfl, m, F.kp⟩
  · obtain ⟨v, a, r, rfl, _⟩ := h
    rfl
  obtain ⟨v, a, r, rfl, hv, hz, hR, hl, b0, bs, q⟩ := h
  refine ⟨_, (pss_cons
    (ps_set (i := 2) S__law_spoilt_word.nd rfl (Or.inl rfl) (pe_call0 G__law_characters (hr.mono (by decide)) rfl m__law_characters k__law_characters b__law_characters .nil pass0))
    (pss_cons
    (ps_set (i := 3) S__law_spoilt_word.nd rfl (Or.inl rfl) (pe_slice sl_str (pv 0) po_none (po_some pe_int)))
    (pss_cons
    (ps_for PassesOwn.never rfl (pi_range1 rfl T.z_range (pa_cons (pe_op op_add pe_int (pe_ix (r := rIxL K) ix_list (pv 1) pe_int (fun _ _ => rfl))) pa_nil)) (pg_name (i := 4) S__law_spoilt_word.nd rfl (Or.inl rfl)) (pss_cons
    (ps_set (i := 5) S__law_spoilt_word.nd rfl (Or.inl rfl) (pe_op op_mod (pe_callTy call_int1 rfl T.z_int (by decide +kernel) (pa_cons (pe_ix (r := rIxL K) ix_list (pv 1) (pe_op op_add pe_int (pe_op op_mul pe_int (pv 4))) (fun _ _ => rfl)) pa_nil)) (pe_op op_add (pe_callB call_len_str rfl T.z_len PySem.boot_len (pa_cons (pv 3) pa_nil)) pe_int)))
    (pss_cons
    (ps_set (i := 6) S__law_spoilt_word.nd rfl (Or.inl rfl) (pe_ix ix_str (pv 2) (pe_ix (r := rIxL K) ix_list (pv 1) (pe_op op_add pe_int (pe_op op_mul pe_int (pv 4))) (fun _ _ => rfl)) (fun _ _ => rfl)))
    (pss_one
    (ps_set (i := 3) S__law_spoilt_word.nd rfl (Or.inl rfl) (pe_op op_add_str (pe_op op_add_str (pe_slice sl_str (pv 3) po_none (po_some (pv 5))) (pv 6)) (pe_slice sl_str (pv 3) (po_some (pe_op op_add (pv 5) (pe_ix (r := rIxL K) ix_list (pv 1) (pe_op op_add pe_int (pe_op op_mul pe_int (pv 4))) (fun _ _ => rfl)))) po_none)))))))
    (pss_one
    (ps_ret (pv 3)))))), ?_⟩
  refine q_asg ev_ch fun H1 e1 => ?_
  have hcl := cutL_len (l := v) (lo := none) (hi := some ((397 : Nat) : Int))
  have h397 : (cutL v none (some ((397 : Nat) : Int))).length ≤ 397 := by
    rw [cutL_to, List.length_take]
    omega
  refine q_asg (ev_slS (hi := some ((397 : Nat) : Int)) (by omega) (ev_var rfl) eo_none (eo_some ev_c)) fun H2 e2 => ?_
  have e12 := e1.trans e2
  refine q_forR1 (n := 1 + at0 r 0) (ea_cons (ev_add ev_c (ev_atI (ex_l e12 hR) (i := 0) (by omega) rfl (ev_var rfl) ev_c)) ea_nil) (by omega) (fun k σ' H' => ∃ (u : List Nat) (u4 u5 u6 : Option V), σ' = [some (tx v), some (.ref a), some (tx csC), some (tx u), u4, u5, u6] ∧ Ex H H' ∧ low u ∧ u.length ≤ 397 + k) ?_ ?_ ?_
  · intro H3 e3
    exact ⟨_, none, none, none, rfl, e12.trans e3, hv.cut, by omega⟩
  · intro k σ' H' hk z
    obtain ⟨u, u4, u5, u6, rfl, e3, lu, lz⟩ := z
    have hk3 : k < 3 := by omega
    obtain ⟨s1, s2⟩ := bs k hk3
    obtain ⟨n, hn, en⟩ := int_mod (x := at0 r (1 + 3 * k)) (n := u.length + 1) (by omega)
    have en : at0 r (1 + 3 * k) % ((u.length : Int) + 1) = (n : Int) := en
    have rr : ∀ {σ : L2.St} {H1 : Hp} {c : Int} {i : Nat}, Ex H' H1 → σ[1]? = some (some (.ref a)) → σ[4]? = some (some (.int (k : Int))) → c + 3 * (k : Int) = (i : Int) → i < 10 → Ev (tOp (rIxL K) (tVar 1) (tOp (rI0 fun i j => .int (i + j)) (tC (.int c)) (tOp (rI CMul fun i j => .int (i * j)) (tC (.int 3)) (tVar 4)))) σ H1 (.int (at0 r i)) :=
      fun ex h1 h4 hi h10 => ev_atI (ex_l (e3.trans ex) hR) (by omega) hi (ev_var h1) (ev_add ev_c (ev_mulL (by decide) (by decide) ev_c (ev_var h4)))
    refine q_asg (v := .int (n : Int)) (ev_is (ev_mod (j := (u.length : Int) + 1) (by omega) (ev_int (rr (i := 1 + 3 * k) (Ex.refl H') rfl rfl (by omega) (by omega))) (ev_add (ev_lenS (by omega) (ev_var rfl)) ev_c)) (by rw [en])) fun H4 e4 => ?_
    obtain ⟨c, hc, ec⟩ : ∃ c : Nat, c < 95 ∧ at0 r (2 + 3 * k) = (c : Int) := ⟨(at0 r (2 + 3 * k)).toNat, by omega, by omega⟩
    have hcc := get_ex (l := csC) (i := c) (by rw [csC_len]; exact hc)
    have hcl := csC_low _ (List.mem_of_getElem? hcc)
    refine q_asg (v := tx [csC.getD c 0]) (ev_ixS (i := c) (by rw [csC_len]; decide) hcc (ev_var rfl) (ev_is (rr (i := 2 + 3 * k) e4 rfl rfl (by omega) (by omega)) (by rw [ec]))) fun H5 e5 => ?_
    generalize csC.getD c 0 = sg at hcl ⊢
    obtain ⟨d, hd, ed⟩ : ∃ d : Nat, d < 2 ∧ at0 r (3 + 3 * k) = (d : Int) := ⟨(at0 r (3 + 3 * k)).toNat, by omega, by omega⟩
    have c1 := cutL_len (l := u) (lo := none) (hi := some (n : Int))
    have c2 := cutL_len (l := u) (lo := some ((n + d : Nat) : Int)) (hi := none)
    refine s_asg (ev_catS (a := cutL u none (some (n : Int)) ++ [sg]) (b := cutL u (some ((n + d : Nat) : Int)) none) (by rw [List.length_append]; show _ + 1 + _ ≤ _; omega) (ev_catS (b := [sg]) (by show _ + 1 ≤ _; omega) (ev_slS (by omega) (ev_var rfl) eo_none (eo_some (i := (n : Int)) (ev_var rfl))) (ev_var rfl)) (ev_slS (by omega) (ev_var rfl) (eo_some (i := ((n + d : Nat) : Int)) (ev_is (ev_add (ev_var rfl) (rr (i := 3 + 3 * k) (e4.trans e5) rfl rfl (by omega) (by omega))) (by rw [ed]; congr 1))) eo_none)) fun H6 e6 => ⟨_, _, _, _, rfl, ((e3.trans e4).trans e5).trans e6, (lu.cut.app (low.one hcl)).app lu.cut, ?_⟩
    rw [List.length_append, List.length_append, cutL_to, cutL_from, List.length_take, List.length_drop]
    show min n u.length + 1 + (u.length - (n + d)) ≤ _
    omega
  · intro σ' H' z
    obtain ⟨u, u4, u5, u6, rfl, e3, lu, lz⟩ := z
    exact s_ret (ev_var rfl) fun H4 e4 => q u lu (by omega) H4 (e3.trans e4)
/-! ### _law_odd_signs -/
def spOdd (K : PySem.W.Frag) : Sp := fun vs H Q _ => ∃ (al : List Nat) (a : Addr) (r : List Int), vs = [tx al, .ref a] ∧ Alf al ∧ SqL K H a (r.map V.int) ∧ r.length = 13 ∧ (0 ≤ at0 r 0 ∧ at0 r 0 < 10) ∧ (0 ≤ at0 r 2 ∧ at0 r 2 < 95) ∧ (0 ≤ at0 r 3 ∧ at0 r 3 < 36) ∧ (0 ≤ at0 r 4 ∧ at0 r 4 < 9) ∧ (∀ k, 5 ≤ k → k < 13 → 0 ≤ at0 r k ∧ at0 r k < 95) ∧ ∀ u, low u → u.length ≤ 100 → RetV (tx u) H Q
theorem has_odd (F : At K mg "_law_odd_signs" s__law_odd_signs) (T : Top K mg C_Cut) (h1 : Has P w K mg base "_law_characters" s__law_characters [] 1 spCh) : Has P w K mg base "_law_odd_signs" s__law_odd_signs ["signs", "row"] 2 (spOdd K) := by
  obtain ⟨f, fd, F, m⟩ := F.ex
  obtain ⟨f1, fd1, _, G__law_characters, b__law_characters, m__law_characters, k__law_characters⟩ := h1
  refine ⟨f, fd, F, F.ok S__law_odd_signs (fun vs H Q E h => ?_) (fun cdv A outer s H vs Q E hr h => ?_), F.binds fun _ _ _ _ _ _ us hl => match us, hl with | [_, _], _ => rfl, m, F.kp⟩
  · obtain ⟨al, a, r, rfl, _⟩ := h
    rfl
  obtain ⟨al, a, r, rfl, hA, hR, hl, b0, b2, b3, b4, b5, q⟩ := h
  refine ⟨_, (pss_cons
    (ps_set (i := 2) S__law_odd_signs.nd rfl (Or.inr rfl) (pe_call0 G__law_characters (hr.mono (by decide)) rfl m__law_characters k__law_characters b__law_characters .nil pass0))
    (pss_cons
    (ps_set (i := 3) S__law_odd_signs.nd rfl (Or.inl rfl) pe_str)
    (pss_cons
    (ps_set (i := 4) S__law_odd_signs.nd rfl (Or.inl rfl) (pe_op op_mod (pe_callTy call_int1 rfl T.z_int (by decide +kernel) (pa_cons (pe_ix (r := rIxL K) ix_list (pv 1) pe_int (fun _ _ => rfl)) pa_nil)) (pe_op op_add (pe_callB call_len_str rfl T.z_len PySem.boot_len (pa_cons (pv 0) pa_nil)) pe_int)))
    (pss_cons
    (ps_set (i := 5) S__law_odd_signs.nd rfl (Or.inl rfl) (pe_ix (r := rIxL K) ix_list (pv 1) pe_int (fun _ _ => rfl)))
    (pss_cons
    (ps_if (pt_cmpR op_lt (pv 5) pe_int (nomark _)) (pss_one
    (ps_ret (pe_op op_add_str (pe_op op_add_str (pe_slice sl_str (pv 0) po_none (po_some (pv 4))) (pe_ix (r := rIxL K) ix_list (pe_lst (pa_cons (pe_ix ix_str (pv 2) (pe_ix (r := rIxL K) ix_list (pv 1) pe_int (fun _ _ => rfl)) (fun _ _ => rfl)) (pa_cons (pe_ix ix_str (pv 3) (pe_ix (r := rIxL K) ix_list (pv 1) pe_int (fun _ _ => rfl)) (fun _ _ => rfl)) (pa_cons (pe_m0 PySem.F.slot_str_upper PySem.F.type_str_upper mt_upper (pe_ix ix_str (pv 3) (pe_ix (r := rIxL K) ix_list (pv 1) pe_int (fun _ _ => rfl)) (fun _ _ => rfl))) pa_nil)))) (pv 5) (fun _ _ => rfl))) (pe_slice sl_str (pv 0) (po_some (pv 4)) po_none)))) pss_nil)
    (pss_cons
    (ps_if (pt_cmpR op_eq (pv 5) pe_int (nomark _)) (pss_one
    (ps_ret (pe_op op_add_str (pe_op op_add_str (pe_slice sl_str (pv 0) po_none (po_some (pv 4))) (pe_slice sl_str (pv 0) (po_some (pe_op op_sub (pv 4) pe_int)) (po_some (pv 4)))) (pe_slice sl_str (pv 0) (po_some (pv 4)) po_none)))) pss_nil)
    (pss_cons
    (ps_if (pt_cmpR op_eq (pv 5) pe_int (nomark _)) (pss_one
    (ps_ret (pe_revE (pv 0)))) pss_nil)
    (pss_cons
    (ps_if (pt_cmpR op_eq (pv 5) pe_int (nomark _)) (pss_one
    (ps_ret (pe_slice sl_str (pv 3) (po_some (pe_ix (r := rIxL K) ix_list (pv 1) pe_int (fun _ _ => rfl))) (po_some (pe_op op_add (pe_ix (r := rIxL K) ix_list (pv 1) pe_int (fun _ _ => rfl)) (pe_ix (r := rIxL K) ix_list (pv 1) pe_int (fun _ _ => rfl))))))) pss_nil)
    (pss_cons
    (ps_if (pt_cmpR op_eq (pv 5) pe_int (nomark _)) (pss_one
    (ps_ret (pe_ix (r := rIxL K) ix_list (pe_lst (pa_cons pe_str (pa_cons (pe_op op_add_str (pv 0) pe_str) (pa_cons (pe_m0 PySem.F.slot_str_upper PySem.F.type_str_upper mt_upper (pv 0)) (pa_cons (pe_op op_add_str pe_str (pv 0)) (pa_cons (pe_op op_add_str (pv 0) (pv 0)) (pa_cons (pe_op op_add_str (pv 0) pe_str) (pa_cons (pv 3) (pa_cons pe_str (pa_cons pe_str pa_nil)))))))))) (pe_ix (r := rIxL K) ix_list (pv 1) pe_int (fun _ _ => rfl)) (fun _ _ => rfl)))) pss_nil)
    (pss_cons
    (ps_if (pt_cmpR op_eq (pv 5) pe_int (nomark _)) (pss_one
    (ps_ret (pe_op op_add_str (pe_slice sl_str (pv 3) (po_some (pe_ix (r := rIxL K) ix_list (pv 1) pe_int (fun _ _ => rfl))) po_none) (pe_slice sl_str (pv 0) (po_some (pv 4)) po_none)))) pss_nil)
    (pss_one
    (ps_ret (pe_join pe_str (pe_lc (own := [("one", 6)]) (g := gName 6) (tt := tYes) rfl S__law_odd_signs.nd (pi_list (pe_slice sl_list (pv 1) (po_some pe_int) (po_some (pe_op op_add pe_int (pe_ix (r := rIxL K) ix_list (pv 1) pe_int (fun _ _ => rfl)))))) (blkOk_by (N := N__law_odd_signs) (sc := defScope s__law_odd_signs) (by decide +kernel)) (fun _ _ _ _ _ => pg_name (i := 6) S__law_odd_signs.nd rfl (Or.inl rfl)) (fun _ _ _ _ _ => pts_nil) (fun _ _ _ _ _ => (pe_ix ix_str (pv 2) (pv 6) (fun _ _ => rfl))))))))))))))))), ?_⟩
  have h6 := hA.six
  have la : low al := hA.low
  refine q_asg ev_ch fun H1 e1 => ?_
  refine q_asg (v := tx figs) (ev_is ev_c (by rw [figs_is])) fun H2 e2 => ?_
  have lf : low figs := fun c hc => by
    have := figs_let c hc
    omega
  have fl : figs.length = 36 := rfl
  have e12 := e1.trans e2
  obtain ⟨n, hn, en⟩ := int_mod (x := at0 r 1) (n := al.length + 1) (by omega)
  have en : at0 r 1 % ((al.length : Int) + 1) = (n : Int) := en
  refine q_asg (v := .int (n : Int)) (ev_is (ev_mod (j := (al.length : Int) + 1) (by omega) (ev_int (ev_atI (ex_l e12 hR) (i := 1) (by omega) rfl (ev_var rfl) ev_c)) (ev_add (ev_lenS (by omega) (ev_var rfl)) ev_c)) (by rw [en])) fun H3 e3 => ?_
  have e13 := e12.trans e3
  refine q_asg (ev_atI (ex_l e13 hR) (i := 0) (by omega) rfl (ev_var rfl) ev_c) fun H4 e4 => ?_
  have e14 := e13.trans e4
  obtain ⟨n0, hn0⟩ : ∃ k : Nat, at0 r 0 = (k : Int) := ⟨(at0 r 0).toNat, by omega⟩
  obtain ⟨n2, hn2⟩ : ∃ k : Nat, at0 r 2 = (k : Int) := ⟨(at0 r 2).toNat, by omega⟩
  obtain ⟨n3, hn3⟩ : ∃ k : Nat, at0 r 3 = (k : Int) := ⟨(at0 r 3).toNat, by omega⟩
  obtain ⟨n4, hn4⟩ : ∃ k : Nat, at0 r 4 = (k : Int) := ⟨(at0 r 4).toNat, by omega⟩
  have c2 := get_ex (l := csC) (i := n2) (by rw [csC_len]; omega)
  have c3 := get_ex (l := figs) (i := n3) (by omega)
  have m2 := csC_low _ (List.mem_of_getElem? c2)
  have m3 := List.mem_of_getElem? c3
  have at' : ∀ {σ : L2.St} {H1 : Hp} {i : Nat} {k : Nat}, Ex H H1 → σ[1]? = some (some (.ref a)) → i < 13 → at0 r i = (k : Int) → Ev (tOp (rIxL K) (tVar 1) (tC (.int (i : Int)))) σ H1 (.int (k : Int)) := fun ex h1 hi ek => ev_is (ev_atI (ex_l ex hR) (by omega) rfl (ev_var h1) ev_c) (by rw [ek])
  have k1 := cutL_len (l := al) (lo := none) (hi := some (n : Int))
  have k2 := cutL_len (l := al) (lo := some (n : Int)) (hi := none)
  rw [hn0]
  refine q_when (et_lt (ev_var rfl) ev_c) (fun hb H5 e5 => ?_) (fun hb H5 e5 => ?_)
  · have hk3 : n0 < 3 := by
      have := of_decide_eq_true hb
      omega
    have ex5 := e14.trans e5
    have hel : ∃ s : List Nat, low s ∧ s.length ≤ 1 ∧ [tx [csC.getD n2 0], tx [figs.getD n3 0], tx ([figs.getD n3 0].map upc)][n0]? = some (tx s) := by
      match n0, hk3 with
      | 0, _ => exact ⟨_, low.one m2, Nat.le_refl 1, rfl⟩
      | 1, _ => exact ⟨_, low.one (lf _ m3), Nat.le_refl 1, rfl⟩
      | 2, _ => exact ⟨_, low.one (upc_low _ m3), Nat.le_refl 1, rfl⟩
    obtain ⟨s, ls, ls1, hs⟩ := hel
    refine s_ret (ev_catS (a := cutL al none (some (n : Int)) ++ s) (b := cutL al (some (n : Int)) none) (by rw [List.length_append]; omega) (ev_catS (b := s) (by omega) (ev_slS (by omega) (ev_var rfl) eo_none (eo_some (i := (n : Int)) (ev_var rfl))) (ev_opN (xs := [tx [csC.getD n2 0], tx [figs.getD n3 0], tx ([figs.getD n3 0].map upc)]) (y := .int (n0 : Int)) (el_lst (ea_cons (ev_ixS (i := n2) (by rw [csC_len]; decide) c2 (ev_var rfl) (at' (i := 2) ex5 rfl (by decide) hn2)) (ea_cons (ev_ixS (i := n3) (by decide) c3 (ev_var rfl) (at' (i := 3) ex5 rfl (by decide) hn3)) (ea_cons (ev_upper (l := [figs.getD n3 0]) (ev_ixS (i := n3) (by decide) c3 (ev_var rfl) (at' (i := 3) ex5 rfl (by decide) hn3)) (fun c hc => by rw [List.mem_singleton.mp hc]; exact m3) (by show 1 ≤ 1000; decide)) ea_nil))) (by show 3 ≤ 100000; decide)) (fun _ _ => ev_var rfl) fun p H1 _ g => rv_ixL (sq_of g) (atI_nat hs))) (ev_slS (by omega) (ev_var rfl) (eo_some (i := (n : Int)) (ev_var rfl)) eo_none)) fun H6 e6 => q _ ((la.cut.app ls).app la.cut) (by rw [List.length_append, List.length_append]; omega) H6 (ex5.trans e6)
  have e15 := e14.trans e5
  refine q_when (et_eqI (ev_var rfl) ev_c) (fun hb H6 e6 => ?_) (fun hb H6 e6 => ?_)
  · have k3 := cutL_len (l := al) (lo := some ((n : Int) - 1)) (hi := some (n : Int))
    exact s_ret (ev_catS (a := cutL al none (some (n : Int)) ++ cutL al (some ((n : Int) - 1)) (some (n : Int))) (b := cutL al (some (n : Int)) none) (by rw [List.length_append]; omega) (ev_catS (by omega) (ev_slS (by omega) (ev_var rfl) eo_none (eo_some (i := (n : Int)) (ev_var rfl))) (ev_slS (by omega) (ev_var rfl) (eo_some (ev_sub (ev_var rfl) ev_c)) (eo_some (i := (n : Int)) (ev_var rfl)))) (ev_slS (by omega) (ev_var rfl) (eo_some (i := (n : Int)) (ev_var rfl)) eo_none)) fun H7 e7 => q _ ((la.cut.app la.cut).app la.cut) (by rw [List.length_append, List.length_append]; omega) H7 ((e15.trans e6).trans e7)
  have e16 := e15.trans e6
  refine q_when (et_eqI (ev_var rfl) ev_c) (fun hb H7 e7 => ?_) (fun hb H7 e7 => ?_)
  · exact s_ret (ev_revE (ev_var rfl) (by omega)) fun H8 e8 => q _ (fun c hc => la c (List.mem_reverse.mp hc)) (by rw [List.length_reverse]; omega) H8 ((e16.trans e7).trans e8)
  have e17 := e16.trans e7
  refine q_when (et_eqI (ev_var rfl) ev_c) (fun hb H8 e8 => ?_) (fun hb H8 e8 => ?_)
  · have k3 := cutL_len (l := figs) (lo := some (n3 : Int)) (hi := some ((n3 + n4 : Nat) : Int))
    have ex8 := e17.trans e8
    exact s_ret (ev_slS (by decide) (ev_var rfl) (eo_some (i := (n3 : Int)) (at' (i := 3) ex8 rfl (by decide) hn3)) (eo_some (i := ((n3 + n4 : Nat) : Int)) (ev_is (ev_add (at' (i := 3) ex8 rfl (by decide) hn3) (at' (i := 4) ex8 rfl (by decide) hn4)) (by congr 1)))) fun H9 e9 => q _ lf.cut (by omega) H9 (ex8.trans e9)
  have e18 := e17.trans e8
  refine q_when (et_eqI (ev_var rfl) ev_c) (fun hb H9 e9 => ?_) (fun hb H9 e9 => ?_)
  · have hk9 : n4 < 9 := by omega
    have ex9 := e18.trans e9
    have nl : Str.ofString "\n" = SX.S [10] := by decide +kernel
    have spc : Str.ofString " " = SX.S [32] := by decide +kernel
    have cm : Str.ofString "," = SX.S [44] := by decide +kernel
    have ba : Str.ofString "ba" = SX.S [98, 97] := by decide +kernel
    have l1 : low [10] := low.one (by decide)
    have l2 : low [32] := low.one (by decide)
    have lu : low (al.map upc) := fun c hc => by
      obtain ⟨d, hd, rfl⟩ := List.mem_map.mp hc
      exact upc_low d (alf_figs_in hA d hd)
    have hel : ∃ s : List Nat, low s ∧ s.length ≤ 100 ∧ [tx [], tx (al ++ [10]), tx (al.map upc), tx ([32] ++ al), tx (al ++ al), tx (al ++ [32]), tx figs, tx [44], tx [98, 97]][n4]? = some (tx s) := by
      match n4, hk9 with
      | 0, _ => exact ⟨[], (fun c hc => by cases hc), by decide, rfl⟩
      | 1, _ => exact ⟨_, la.app l1, by rw [List.length_append]; show _ + 1 ≤ _; omega, rfl⟩
      | 2, _ => exact ⟨_, lu, by rw [List.length_map]; omega, rfl⟩
      | 3, _ => exact ⟨_, l2.app la, by rw [List.length_append]; show 1 + _ ≤ _; omega, rfl⟩
      | 4, _ => exact ⟨_, la.app la, by rw [List.length_append]; omega, rfl⟩
      | 5, _ => exact ⟨_, la.app l2, by rw [List.length_append]; show _ + 1 ≤ _; omega, rfl⟩
      | 6, _ => exact ⟨_, lf, by decide, rfl⟩
      | 7, _ => exact ⟨_, low.one (by decide), by decide, rfl⟩
      | 8, _ => exact ⟨_, (low.one (by decide)).app (low.one (by decide)), by decide, rfl⟩
    obtain ⟨s, ls, ls1, hs⟩ := hel
    refine s_ret (ev_opN (xs := [tx [], tx (al ++ [10]), tx (al.map upc), tx ([32] ++ al), tx (al ++ al), tx (al ++ [32]), tx figs, tx [44], tx [98, 97]]) (y := .int (n4 : Int)) (el_lst (ea_cons (ev_is (w := tx []) ev_c (by rw [mt_is])) (ea_cons (ev_catS (b := [10]) (by show _ + 1 ≤ _; omega) (ev_var rfl) (ev_is ev_c (by rw [nl]))) (ea_cons (ev_upper (ev_var rfl) (alf_figs_in hA) (by omega)) (ea_cons (ev_catS (a := [32]) (by show 1 + _ ≤ _; omega) (ev_is ev_c (by rw [spc])) (ev_var rfl)) (ea_cons (ev_catS (by omega) (ev_var rfl) (ev_var rfl)) (ea_cons (ev_catS (b := [32]) (by show _ + 1 ≤ _; omega) (ev_var rfl) (ev_is ev_c (by rw [spc]))) (ea_cons (ev_var rfl) (ea_cons (ev_is (w := tx [44]) ev_c (by rw [cm])) (ea_cons (ev_is (w := tx [98, 97]) ev_c (by rw [ba])) ea_nil))))))))) (by show 9 ≤ 100000; decide)) (fun H1 e => at' (i := 4) (ex9.trans e) rfl (by decide) hn4) fun p H1 _ g => rv_ixL (sq_of g) (atI_nat hs)) fun H10 e10 => q s ls ls1 H10 (ex9.trans e10)
  have e19 := e18.trans e9
  refine q_when (et_eqI (ev_var rfl) ev_c) (fun hb H10 e10 => ?_) (fun hb H10 e10 => ?_)
  · have k3 := cutL_len (l := figs) (lo := some (n3 : Int)) (hi := none)
    have ex10 := e19.trans e10
    exact s_ret (ev_catS (by omega) (ev_slS (by decide) (ev_var rfl) (eo_some (i := (n3 : Int)) (at' (i := 3) ex10 rfl (by decide) hn3)) eo_none) (ev_slS (by omega) (ev_var rfl) (eo_some (i := (n : Int)) (ev_var rfl)) eo_none)) fun H11 e11 => q _ (lf.cut.app la.cut) (by rw [List.length_append]; omega) H11 (ex10.trans e11)
  have ex := e19.trans e10
  -- free characters
  have hsl : EvL (tSl (rSlL K) (tVar 1) (tPart (tC (.int 5))) (tPart (tOp (rI0 fun i j => .int (i + j)) (tC (.int 5)) (tOp (rIxL K) (tVar 1) (tC (.int 4)))))) [some (tx al), some (.ref a), some (tx csC), some (tx figs), some (.int (n : Int)), some (.int (n0 : Int)), none] H10 (((r.drop 5).take n4).map V.int) := by
    have g := el_sl (K := K) (σ := [some (tx al), some (.ref a), some (tx csC), some (tx figs), some (.int (n : Int)), some (.int (n0 : Int)), none]) (H := H10) (te := tVar 1) (tl := tPart (tC (.int 5))) (th := tPart (tOp (rI0 fun i j => .int (i + j)) (tC (.int 5)) (tOp (rIxL K) (tVar 1) (tC (.int 4))))) (lo := some ((5 : Nat) : Int)) (hi := some ((5 + n4 : Nat) : Int)) (ev_var rfl) (eo_some ev_c) (eo_some (ev_is (ev_add ev_c (at' (i := 4) ex rfl (by decide) hn4)) (by rw [Int.natCast_add]; rfl))) (ex_l ex hR)
    rw [cutV_both] at g
    rw [List.map_take, List.map_drop]
    exact g
  have hcs := el_lcNew (K := K) (j := 6) (vs := [6]) (te := tOp rIxS (tVar 2) (tVar 6)) (fun i => tx [csC.getD (at0 r (5 + i)).toNat 0]) hsl (by rw [List.length_map, List.length_take, List.length_drop]; omega) (fun a => rfl) (fun i x H1 e1 hx => by
    rw [List.getElem?_map] at hx
    obtain ⟨z, hz, rfl⟩ := Option.map_eq_some_iff.mp hx
    rw [List.getElem?_take] at hz
    split at hz
    · rename_i hi
      rw [List.getElem?_drop] at hz
      have hi13 := (List.getElem?_eq_some_iff.mp hz).1
      have e0 : at0 r (5 + i) = z := by
        unfold at0
        rw [List.getD_eq_getElem?_getD, hz]
        rfl
      have bb := b5 (5 + i) (by omega) (by omega)
      have hcc := get_ex (l := csC) (i := (at0 r (5 + i)).toNat) (by rw [csC_len]; omega)
      exact ev_ixS (i := (at0 r (5 + i)).toNat) (by rw [csC_len]; decide) hcc (ev_var rfl) (ev_is (ev_var rfl) (by rw [← e0]; congr 1; omega))
    · cases hz)
  have hlen : (((r.drop 5).take n4).map V.int).length = n4 := by
    rw [List.length_map, List.length_take, List.length_drop]
    omega
  rw [hlen] at hcs
  have hmm : ((List.range n4).map fun i => tx [csC.getD (at0 r (5 + i)).toNat 0]) = ((List.range n4).map fun i => [csC.getD (at0 r (5 + i)).toNat 0]).map tx := by
    rw [List.map_map]
    rfl
  rw [hmm] at hcs
  have hfl : ((List.range n4).map fun i => [csC.getD (at0 r (5 + i)).toNat 0]).flatten = (List.range n4).map fun i => csC.getD (at0 r (5 + i)).toNat 0 := by
    have := flat_sing ((List.range n4).map fun i => csC.getD (at0 r (5 + i)).toNat 0)
    rw [List.map_map] at this
    exact this
  refine s_ret (ev_joinL (ev_is ev_c (by rw [mt_is])) hcs (by rw [hfl, List.length_map, List.length_range]; omega)) fun H11 e11 => q _ (fun c hc => ?_) (by rw [hfl, List.length_map, List.length_range]; omega) H11 (ex.trans e11)
  rw [hfl] at hc
  obtain ⟨i, hi, rfl⟩ := List.mem_map.mp hc
  have hi := List.mem_range.mp hi
  have bb := b5 (5 + i) (by omega) (by omega)
  exact csC_low _ (List.mem_of_getElem? (get_ex (l := csC) (i := (at0 r (5 + i)).toNat) (by rw [csC_len]; omega)))
end
end Ver
namespace Ver
open PySem PySem.Spec PyProof.Rows L2 Evl
section
variable {P : Program} {w : World} {K : PySem.W.Frag} {mg : Str → Option Value} {base : Heap} {C_Cut : Addr}
theorem has_lwhole (F : At K mg "_law_whole" s__law_whole) (T : Top K mg C_Cut) : Has P w K mg base "_law_whole" s__law_whole ["value"] 1 spWhole := by
  obtain ⟨f, fd, F, m⟩ := F.ex
  refine ⟨f, fd, F, F.ok S__law_whole (fun vs H Q E h => ?_) (fun cdv A outer s H vs Q E hr h => ?_), F.binds fun _ _ _ _ _ _ us hl => match us, hl with | [_], _ => rfl, m, F.kp⟩
  · obtain ⟨n, rfl, _⟩ := h
    rfl
  obtain ⟨n, rfl, q⟩ := h
  refine ⟨_, (pss_one
    (ps_ret (pe_and (pe_callB call_isi rfl T.z_isinstance (by decide +kernel) (pa_cons (pv 0) (pa_cons (pe_bltn (v := .ty "int") rfl T.z_int (by decide +kernel) rfl) pa_nil))) (pe_one (pe_not (pe_callB call_isi rfl T.z_isinstance (by decide +kernel) (pa_cons (pv 0) (pa_cons (pe_bltn (v := .ty "bool") rfl T.z_bool (by decide +kernel) rfl) pa_nil)))))))), ?_⟩
  exact s_ret (ev_is (ev_andV (ev_cb (ea_cons (ev_var rfl) (ea_cons ev_c ea_nil)) (rc_isi (b := true) (by decide +kernel)))
    (fun _ => ev_notV (ev_cb (ea_cons (ev_var rfl) (ea_cons ev_c ea_nil)) (rc_isi (b := false) (by decide +kernel))))) rfl) q
end
end Ver
namespace Ver
open PySem PySem.Spec PyProof.Rows L2 Evl
section
variable {P : Program} {w : World} {K : PySem.W.Frag} {mg : Str → Option Value} {base : Heap} {C_Cut : Addr}
/-! ### is_alphabet -/
def lets : List Nat := [48, 49, 50, 51, 52, 53, 54, 55, 56, 57, 97, 98, 99, 100, 101, 102, 103, 104, 105, 106, 107, 108, 109, 110, 111, 112, 113, 114, 115, 116, 117, 118, 119, 120, 121, 122]
theorem lets_is : Str.ofString "0123456789abcdefghijklmnopqrstuvwxyz" = SX.S lets := by decide +kernel
theorem nil_is : Str.ofString "" = SX.S [] := by decide +kernel
theorem let_mem {c : Nat} (h : (48 ≤ c ∧ c ≤ 57) ∨ (97 ≤ c ∧ c ≤ 122)) : c ∈ lets := by
  have k : ∀ d, d < 123 → ((48 ≤ d ∧ d ≤ 57) ∨ (97 ≤ d ∧ d ≤ 122)) → d ∈ lets := by decide +kernel
  exact k c (by omega) h
def spIsAl : Sp := fun vs H Q _ => ∃ al : List Nat, vs = [tx al] ∧ Alf al ∧ RetV (.bl true) H Q
theorem has_isal (F : At K mg "is_alphabet" s_is_alphabet) (T : Top K mg C_Cut) : Has P w K mg base "is_alphabet" s_is_alphabet ["string"] 1 spIsAl := by
  obtain ⟨f, fd, F, m⟩ := F.ex
  obtain ⟨tL, g_LETTERS⟩ := T.g_LETTERS
  obtain ⟨tM, g_MOST_LETTERS⟩ := T.g_MOST_LETTERS
  refine ⟨f, fd, F, F.ok S_is_alphabet (fun vs H Q E h => ?_) (fun cdv A outer s H vs Q E hr h => ?_), F.binds fun _ _ _ _ _ _ us hl => match us, hl with | [_], _ => rfl, m, F.kp⟩
  · obtain ⟨al, rfl, _⟩ := h
    rfl
  obtain ⟨al, rfl, hA, q⟩ := h
  refine ⟨_, (pss_cons
    (ps_if (PW.pt (pw_or (pt_cmpR op_lt (pe_callB call_len_str rfl T.z_len PySem.boot_len (pa_cons (pv 0) pa_nil)) pe_int (nomark _)) (pw_or1 (pt_cmpR op_gt (pe_callB call_len_str rfl T.z_len PySem.boot_len (pa_cons (pv 0) pa_nil)) (pe_glob (v := .int 6) rfl g_MOST_LETTERS ⟨_, rfl⟩) (nomark _))))) (pss_one
    (ps_ret pe_bl)) pss_nil)
    (pss_cons
    (ps_if (pt_cmpR op_ne (pe_bm PySem.F.plainAttrs_str PySem.F.slot_str_strip PySem.F.type_str_strip mt_stripChars (pv 0) (pa_cons (pe_glob (v := .str (Str.ofString "0123456789abcdefghijklmnopqrstuvwxyz")) rfl g_LETTERS ⟨_, rfl⟩) pa_nil)) pe_str (nomark _)) (pss_one
    (ps_ret pe_bl)) pss_nil)
    (pss_one
    (ps_ret (pe_callB (cr_all rfl) rfl T.z_all (by decide +kernel) (pa_cons (pe_lc (own := [("one", 1), ("two", 2)]) (g := gTup K 2 (gCons (gName 1) (gCons (gName 2) gNil))) (tt := tYes) rfl S_is_alphabet.nd (pi_zipS rfl T.z_zip (pa_cons (pv 0) (pa_cons (pe_slice sl_str (pv 0) (po_some pe_int) po_none) pa_nil))) (blkOk_by (N := N_is_alphabet) (sc := defScope s_is_alphabet) (by decide +kernel)) (fun _ _ _ _ _ => pg_tup rfl (pgs_cons (pg_name (i := 1) S_is_alphabet.nd rfl (Or.inl rfl)) (pgs_cons (pg_name (i := 2) S_is_alphabet.nd rfl (Or.inl rfl)) pgs_nil))) (fun _ _ _ _ _ => pts_nil) (fun _ _ _ _ _ => (pe_cmpR op_lt_str (pv 1) (pv 2) (nomark _)))) pa_nil)))))), ?_⟩
  have h6 := hA.six
  have h1 := hA.pos
  refine q_skip (et_is (et_or (et_lt (ev_lenS (by omega) (ev_var rfl)) ev_c) (fun _ => et_gt (ev_lenS (by omega) (ev_var rfl)) ev_c)) (by rw [decide_eq_false (show ¬ (al.length : Int) < 1 by omega), decide_eq_false (show ¬ (6 : Int) < (al.length : Int) by omega)]; rfl)) fun H1 e1 => ?_
  have hst : Txt.stripChars (SX.S al) (Str.ofString "0123456789abcdefghijklmnopqrstuvwxyz") = SX.S [] := by
    rw [lets_is]
    exact strip_chars fun c hc => let_mem (hA.let' c hc)
  refine q_skip (et_is (et_test (ev_op (ev_bm (z := tx []) (ev_var rfl) (fun _ _ => rfl) (ea_cons ev_c ea_nil) fun H2 _ Q' q' => ⟨SX.S al, _, rfl, rfl, by rw [SX.S_len]; exact sz_of (by omega), by rw [hst]; exact q' H2 (Ex.refl H2)⟩) ev_c (rv_ne rfl))) (by rw [nil_is]; simp)) fun H2 e2 => ?_
  refine s_ret (ev_is (ev_allN (bs := (List.range (min al.length (al.drop 1).length)).map fun i => decide (al.getD i 0 < (al.drop 1).getD i 0)) ?_) ?_) fun H3 e3 => q H3 ((e1.trans e2).trans e3)
  · have g := el_lcZ (K := K) (σ := [some (tx al), none, none]) (H := H2) (x := al) (y := al.drop 1) (tp := tCons (tVar 0) (tCons (tSl rSlS (tVar 0) (tPart (tC (.int 1))) tNoPart) tNil)) (j1 := 1) (j2 := 2) (vs := [1, 2]) (te := tOp (fun x y H Q => ∃ i j : Str, x = .str i ∧ y = .str j ∧ Q (.bl (decide (i.cps.toList < j.cps.toList))) H) (tVar 1) (tVar 2))
      (fun i => V.bl (decide (al.getD i 0 < (al.drop 1).getD i 0)))
      (ea_cons (ev_var rfl) (ea_cons (ev_is (ev_slS (by omega) (ev_var rfl) (eo_some (i := ((1 : Nat) : Int)) ev_c) eo_none) (by rw [cutL_from])) ea_nil)) (by omega) (fun a b => rfl) (fun i c d H3 e3 hc hd => ?_)
    · rw [List.map_map]
      exact g
    · have ec : al.getD i 0 = c := by
        rw [List.getD_eq_getElem?_getD, hc]
        rfl
      have ed : (al.drop 1).getD i 0 = d := by
        rw [List.getD_eq_getElem?_getD, hd]
        rfl
      rw [ec, ed]
      refine ev_is (ev_op (ev_var rfl) (ev_var rfl) rv_ltS) ?_
      congr 1
      refine decide_eq_decide.mpr ?_
      constructor
      · intro h
        cases h with
        | rel h => exact h
        | cons h => cases h
      · exact fun h => List.Lex.rel h
  · congr 1
    rw [List.all_eq_true]
    intro b hb
    obtain ⟨i, hi, rfl⟩ := List.mem_map.mp hb
    have hi := List.mem_range.mp hi
    have hl : (al.drop 1).length = al.length - 1 := List.length_drop
    show decide _ = true
    refine decide_eq_true ?_
    rw [List.getD_eq_getElem?_getD, List.getD_eq_getElem?_getD, List.getElem?_drop, List.getElem?_eq_getElem (by omega), List.getElem?_eq_getElem (by omega)]
    exact List.pairwise_iff_getElem.mp hA.asc i (1 + i) (by omega) (by omega) (by omega)
theorem sv_isal {al : List Nat} {H : Hp} (h : Alf al) : SpV spIsAl ([tx al] ++ []) H (.bl true) := fun _ _ _ q _ => ⟨al, rfl, h, q⟩
/-! ### is_letter, is_whole -/
def spLet : Sp := fun vs H Q _ => ∃ (al : List Nat) (c : Nat), vs = [tx al, tx [c]] ∧ c ∈ al ∧ RetV (.bl true) H Q
theorem has_let (F : At K mg "is_letter" s_is_letter) (T : Top K mg C_Cut) : Has P w K mg base "is_letter" s_is_letter ["alphabet", "value"] 1 spLet := by
  obtain ⟨f, fd, F, m⟩ := F.ex
  refine ⟨f, fd, F, F.ok S_is_letter (fun vs H Q E h => ?_) (fun cdv A outer s H vs Q E hr h => ?_), F.binds fun _ _ _ _ _ _ us hl => match us, hl with | [_, _], _ => rfl, m, F.kp⟩
  · obtain ⟨al, c, rfl, _⟩ := h
    rfl
  obtain ⟨al, c, rfl, hc, q⟩ := h
  refine ⟨_, (pss_one
    (ps_ret (pe_and (pe_callB call_isi rfl T.z_isinstance (by decide +kernel) (pa_cons (pv 1) (pa_cons (pe_bltn (v := .ty "str") rfl T.z_str (by decide +kernel) rfl) pa_nil))) (pe_and (pe_cmpR op_eq (pe_callB call_len_str rfl T.z_len PySem.boot_len (pa_cons (pv 1) pa_nil)) pe_int (nomark _)) (pe_one (pe_cmpR op_in_sign (pv 1) (pv 0) rfl)))))), ?_⟩
  refine s_ret (ev_is (ev_andV (ev_cb (ea_cons (ev_var rfl) (ea_cons ev_c ea_nil)) (rc_isiS (b := true) (by decide +kernel)))
    (fun _ => ev_andV (ev_op (ev_lenS (l := [c]) (by show 1 ≤ 100000; decide) (ev_var rfl)) ev_c (rv_eq rfl)) (fun _ => ev_op (ev_var rfl) (ev_var rfl) (rv_inSign (c := c) (l := al))))) ?_) q
  rw [decide_eq_true hc]
  rfl
theorem sv_let {al : List Nat} {c : Nat} {H : Hp} (h : c ∈ al) : SpV spLet ([tx al, tx [c]] ++ []) H (.bl true) := fun _ _ _ q _ => ⟨al, c, rfl, h, q⟩
theorem has_whole (F : At K mg "is_whole" s_is_whole) (T : Top K mg C_Cut) : Has P w K mg base "is_whole" s_is_whole ["value"] 1 spWhole := by
  obtain ⟨f, fd, F, m⟩ := F.ex
  refine ⟨f, fd, F, F.ok S_is_whole (fun vs H Q E h => ?_) (fun cdv A outer s H vs Q E hr h => ?_), F.binds fun _ _ _ _ _ _ us hl => match us, hl with | [_], _ => rfl, m, F.kp⟩
  · obtain ⟨n, rfl, _⟩ := h
    rfl
  obtain ⟨n, rfl, q⟩ := h
  refine ⟨_, (pss_one
    (ps_ret (pe_and (pe_callB call_isi rfl T.z_isinstance (by decide +kernel) (pa_cons (pv 0) (pa_cons (pe_bltn (v := .ty "int") rfl T.z_int (by decide +kernel) rfl) pa_nil))) (pe_one (pe_not (pe_callB call_isi rfl T.z_isinstance (by decide +kernel) (pa_cons (pv 0) (pa_cons (pe_bltn (v := .ty "bool") rfl T.z_bool (by decide +kernel) rfl) pa_nil)))))))), ?_⟩
  exact s_ret (ev_is (ev_andV (ev_cb (ea_cons (ev_var rfl) (ea_cons ev_c ea_nil)) (rc_isi (b := true) (by decide +kernel)))
    (fun _ => ev_notV (ev_cb (ea_cons (ev_var rfl) (ea_cons ev_c ea_nil)) (rc_isi (b := false) (by decide +kernel))))) rfl) q
def spBelow : Sp := fun vs H Q _ => ∃ n m : Int, vs = [.int n, .int m] ∧ RetV (.bl (decide (0 ≤ n) && decide (n < m))) H Q
theorem sv_below {n m : Int} {H : Hp} : SpV spBelow ([V.int n, V.int m] ++ []) H (.bl (decide (0 ≤ n) && decide (n < m))) := fun _ _ _ q _ => ⟨n, m, rfl, q⟩
theorem sv_belowT {n m : Int} {H : Hp} (h0 : 0 ≤ n) (h : n < m) : SpV spBelow ([V.int n, V.int m] ++ []) H (.bl true) := by
  have g := sv_below (n := n) (m := m) (H := H)
  rw [decide_eq_true h0, decide_eq_true h] at g
  exact g
theorem has_below (F : At K mg "is_number_below" s_is_number_below) (T : Top K mg C_Cut) (h1 : Has P w K mg base "is_whole" s_is_whole ["value"] 1 spWhole) : Has P w K mg base "is_number_below" s_is_number_below ["value", "many"] 2 spBelow := by
  obtain ⟨f, fd, F, m⟩ := F.ex
  obtain ⟨f1, fd1, _, G_is_whole, b_is_whole, m_is_whole, k_is_whole⟩ := h1
  refine ⟨f, fd, F, F.ok S_is_number_below (fun vs H Q E h => ?_) (fun cdv A outer s H vs Q E hr h => ?_), F.binds fun _ _ _ _ _ _ us hl => match us, hl with | [_, _], _ => rfl, m, F.kp⟩
  · obtain ⟨n, m, rfl, _⟩ := h
    rfl
  obtain ⟨n, m, rfl, q⟩ := h
  refine ⟨_, (pss_one
    (ps_ret (pe_and (pe_call G_is_whole (hr.mono (by decide)) rfl m_is_whole k_is_whole b_is_whole .nil pass0 (pa_cons (pv 0) pa_nil)) (pe_one (pe_chain op_le op_lt pe_int (pv 0) (pv 1)))))), ?_⟩
  exact s_ret (ev_is (ev_andV (ev_call (ea_cons (ev_var rfl) ea_nil) sv_whole) (fun _ => ev_chainV ev_c (ev_var rfl) rv_I0 (fun _ => ev_var rfl) (fun _ => rv_I0))) (by rw [Bool.true_and])) q
/-! ### check_alphabet, check_text -/
def spCkAl : Sp := fun vs H Q _ => ∃ al : List Nat, vs = [tx al] ∧ Alf al ∧ RetV .non H Q
theorem has_ckal (F : At K mg "check_alphabet" s_check_alphabet) (T : Top K mg C_Cut) (h1 : Has P w K mg base "is_alphabet" s_is_alphabet ["string"] 1 spIsAl) : Has P w K mg base "check_alphabet" s_check_alphabet ["alphabet"] 2 spCkAl := by
  obtain ⟨f, fd, F, m⟩ := F.ex
  obtain ⟨f1, fd1, _, G_is_alphabet, b_is_alphabet, m_is_alphabet, k_is_alphabet⟩ := h1
  refine ⟨f, fd, F, F.ok S_check_alphabet (fun vs H Q E h => ?_) (fun cdv A outer s H vs Q E hr h => ?_), F.binds fun _ _ _ _ _ _ us hl => match us, hl with | [_], _ => rfl, m, F.kp⟩
  · obtain ⟨al, rfl, _⟩ := h
    rfl
  obtain ⟨al, rfl, hA, q⟩ := h
  refine ⟨_, (pss_one
    (ps_if (pt_not (pt_val (pe_call G_is_alphabet (hr.mono (by decide)) rfl m_is_alphabet k_is_alphabet b_is_alphabet .nil pass0 (pa_cons (pv 0) pa_nil)))) (pss_one
    ps_never) pss_nil)), ?_⟩
  exact s_skip (et_not (et_B (ev_call (ea_cons (ev_var rfl) ea_nil) (sv_isal hA)))) fun H1 e1 => q H1 e1
theorem sv_ckal {al : List Nat} {H : Hp} (h : Alf al) : SpV spCkAl ([tx al] ++ []) H .non := fun _ _ _ q _ => ⟨al, rfl, h, q⟩
def spCkTx : Sp := fun vs H Q _ => ∃ al v : List Nat, vs = [tx al, tx v] ∧ (∀ c ∈ v, c ∈ al) ∧ v.length ≤ 100000 ∧ RetV .non H Q
theorem has_cktx (F : At K mg "check_text" s_check_text) (T : Top K mg C_Cut) : Has P w K mg base "check_text" s_check_text ["alphabet", "text"] 1 spCkTx := by
  obtain ⟨f, fd, F, m⟩ := F.ex
  refine ⟨f, fd, F, F.ok S_check_text (fun vs H Q E h => ?_) (fun cdv A outer s H vs Q E hr h => ?_), F.binds fun _ _ _ _ _ _ us hl => match us, hl with | [_, _], _ => rfl, m, F.kp⟩
  · obtain ⟨al, v, rfl, _⟩ := h
    rfl
  obtain ⟨al, v, rfl, hv, hz, q⟩ := h
  refine ⟨_, (pss_cons
    (ps_set (i := 2) S_check_text.nd rfl (Or.inl rfl) (pe_bm PySem.F.plainAttrs_str PySem.F.slot_str_lstrip PySem.F.type_str_lstrip mt_lstripChars (pv 1) (pa_cons (pv 0) pa_nil)))
    (pss_one
    (ps_if (pt_cmpR op_ne (pv 2) pe_str (nomark _)) (pss_one
    ps_never) pss_nil))), ?_⟩
  refine q_asg (v := tx []) (ev_bm (ev_var rfl) (fun _ _ => rfl) (ea_cons (ev_var rfl) ea_nil) fun H2 _ Q' q' => ⟨SX.S v, SX.S al, rfl, rfl, by rw [SX.S_len]; exact sz_of hz, by rw [lstrip_chars hv]; exact q' H2 (Ex.refl H2)⟩) fun H1 e1 => ?_
  exact s_skip (et_is (et_test (ev_op (ev_var rfl) ev_c (rv_ne rfl))) (by rw [nil_is]; simp)) fun H2 e2 => q H2 (e1.trans e2)
theorem sv_cktx {al v : List Nat} {H : Hp} (h : ∀ c ∈ v, c ∈ al) (hz : v.length ≤ 100000) : SpV spCkTx ([tx al, tx v] ++ []) H .non := fun _ _ _ q _ => ⟨al, v, rfl, h, hz, q⟩
end
end Ver
namespace Ver
open PySem PySem.Spec PyProof.Rows L2 Evl
section
variable {P : Program} {w : World} {K : PySem.W.Frag} {mg : Str → Option Value} {base : Heap} {C_Cut : Addr}
/-! ### isinstance(x, (list, tuple)) -/
theorem kit_no {t : String} (h1 : kitB t "list" = some false) (h2 : kitB t "tuple" = some false) : PySem.W.kitAny K (.type t) [.type "list", .type "tuple"] = some false :=
  kitAny_cons (kit_ty h1) (fun _ => kitAny_cons (kit_ty h2) (fun _ => rfl) (fun h => nomatch h)) (fun h => nomatch h)
theorem kit_list : PySem.W.kitAny K (.type "list") [.type "list", .type "tuple"] = some true :=
  kitAny_cons (kit_ty (b := "list") (r := true) (by decide +kernel)) (fun h => nomatch h) (fun _ => rfl)
theorem kit_tuple : PySem.W.kitAny K (.type "tuple") [.type "list", .type "tuple"] = some true :=
  kitAny_cons (kit_ty (b := "list") (r := false) (by decide +kernel)) (fun _ => kitAny_cons (kit_ty (b := "tuple") (r := true) (by decide +kernel)) (fun h => nomatch h) (fun _ => rfl)) (fun h => nomatch h)
theorem ev_isT {ta tu : TE} {σ : L2.St} {H : Hp} {x : V} {t : Value} {b : Bool} (hx : Ev ta σ H x) (hu : EvU tu σ H [.ty "list", .ty "tuple"]) (ht : ∀ H1, Ex H H1 → TyX K H1 x t)
    (hb : PySem.W.kitAny K t [.type "list", .type "tuple"] = some b) : Ev (tCB (rIsiT K) (tCons ta (tCons tu tNil))) σ H (.bl b) := fun H1 e Q q =>
  hx H1 e _ fun H2 e2 => hu H2 (e.trans e2) _ fun p H3 _ e3 h3 => ⟨x, p, _, t, _, b, rfl, h3, .cons (.ty _) (.cons (.ty _) .nil), ht H3 ((e.trans e2).trans e3), hb, q H3 (e2.trans e3)⟩
/-! ### as_tuples, level by level -/
def spNo : Sp := fun _ _ _ _ => False
def flatT (x : V) : Prop := (∃ n, x = .int n) ∨ ∃ z, x = .str z
def Seq (H : Hp) (a : Addr) (xs : List V) : Prop := H a = some (.lst xs) ∨ H a = some (.tup xs)
theorem Seq.mono {H H' : Hp} {a : Addr} {xs : List V} (h : Seq H a xs) (e : Ex H H') : Seq H' a xs := h.elim (fun h => .inl (e _ _ h)) (fun h => .inr (e _ _ h))
theorem Seq.ty {H : Hp} {a : Addr} {xs : List V} (h : Seq H a xs) : ∃ t : Value, (∀ H1, Ex H H1 → TyX K H1 (.ref a) t) ∧ PySem.W.kitAny K t [.type "list", .type "tuple"] = some true := by
  rcases h with h | h
  · exact ⟨_, fun H1 e => .base (.lst (e _ _ h)), kit_list⟩
  · exact ⟨_, fun H1 e => .base (.tup (e _ _ h)), kit_tuple⟩
theorem s_retTup {σ : L2.St} {H : Hp} {te : TE} {D : Ends} (h : te σ H fun x H1 => ∃ p ys, [x] = [V.ref p] ∧ ((SqL K H1 p ys ∧ ∀ l, H1 l = none → D.rt (.ref l) (upd H1 l (.tup ys))) ∨ (SqT K H1 p ys ∧ D.rt (.ref p) H1))) :
    tRet (tCB (fun xs H Q => ∃ p ys, xs = [.ref p] ∧ ((SqL K H p ys ∧ ∀ l, H l = none → Q (.ref l) (upd H l (.tup ys))) ∨ (SqT K H p ys ∧ Q (.ref p) H))) (tCons te tNil)) D σ H := h
/-- a list made over a list or a tuple -/
theorem run_lcSeq {σ : L2.St} {H : Hp} {tl te : TE} {a : Addr} {xs : List V} {j : Nat} {vs : List Nat} {Q : VK} (h : Ev tl σ H (.ref a)) (hS : Seq H a xs) (Pv : Addr → Nat → Hp → Prop)
    (h0 : ∀ H1 Dl, Ex H H1 → H1 Dl = none → Pv Dl 0 (upd H1 Dl (.lst []))) (hG : ∀ Dl i H', Pv Dl i H' → Ex H H')
    (hs : ∀ Dl i x H', xs[i]? = some x → Pv Dl i H' → wipe ((wipe σ vs).set j (some x)) vs = wipe σ vs ∧ te ((wipe σ vs).set j (some x)) H' fun y H4 => ∃ acc, H4 Dl = some (.lst acc) ∧ acc.length < sizeLine ∧ Pv Dl (i + 1) (upd H4 Dl (.lst (acc ++ [y]))))
    (hd : ∀ Dl H', Pv Dl xs.length H' → Q (.ref Dl) H') : tLc (iSeq K tl) (gName j) tYes te vs σ H Q :=
  h H (Ex.refl H) _ fun H1 e1 => ⟨a, rfl, by
    rcases hS.mono e1 with q | q
    · exact .inl ⟨xs, sq_of q, fun Dl hD => lc_list (xs := xs) (Pv Dl) (h0 H1 Dl e1 hD) (fun i H' _ p => by
        have := (hG Dl i H' p)
        rcases hS with y | y
        · exact sq_of (this _ _ y)
        · have := e1 _ _ y
          rw [q] at this
          cases this) (fun i x H' hi p => ⟨(hs Dl i x H' hi p).1, (hs Dl i x H' hi p).2⟩) (hd Dl)⟩
    · exact .inr ⟨xs, st_of q, fun Dl hD => lc_tup (xs := xs) (Pv Dl) (h0 H1 Dl e1 hD) (fun i H' _ p => by
        have := (hG Dl i H' p)
        rcases hS with y | y
        · have := e1 _ _ y
          rw [q] at this
          cases this
        · exact st_of (this _ _ y)) (fun i x H' hi p => ⟨(hs Dl i x H' hi p).1, (hs Dl i x H' hi p).2⟩) (hd Dl)⟩⟩
/-- rows of pairs, each a list or a tuple -/
structure RowsS (H : Hp) (xs : List V) (rs : Rw) : Prop where
  len : xs.length = rs.length
  row : ∀ i x, xs[i]? = some x → i < rs.length ∧ ∃ r, x = .ref r ∧ Seq H r [.int ((rowAt rs i).1 : Int), tx [(rowAt rs i).2]]
theorem RowsS.mono {H H' : Hp} {xs : List V} {rs : Rw} (h : RowsS H xs rs) (e : Ex H H') : RowsS H' xs rs := ⟨h.len, fun i x q => by
  obtain ⟨a, r, b, c⟩ := h.row i x q
  exact ⟨a, r, b, c.mono e⟩⟩
theorem RowsS.get {H : Hp} {xs : List V} {rs : Rw} (h : RowsS H xs rs) {i : Nat} {x : V} (hx : xs[i]? = some x) : i < rs.length ∧ ∃ r, x = .ref r ∧ Seq H r [.int ((rowAt rs i).1 : Int), tx [(rowAt rs i).2]] := h.row i x hx
theorem RowsAt.toS {H : Hp} {xs : List V} {rs : Rw} (h : RowsAt H xs rs) : RowsS H xs rs := ⟨h.len, fun i x q => by
  obtain ⟨a, r, b, c⟩ := h.get q
  exact ⟨a, r, b, .inr c⟩⟩
def spAs0 : Sp := fun vs H Q _ => ∃ x : V, vs = [x] ∧ flatT x ∧ RetV x H Q
def spAs1 : Sp := fun vs H Q _ => ∃ (a : Addr) (xs : List V), vs = [.ref a] ∧ Seq H a xs ∧ xs.length ≤ 40000 ∧ (∀ x ∈ xs, flatT x) ∧ RetU xs H Q
def spAs2 : Sp := fun vs H Q _ => ∃ (a : Addr) (xs : List V) (rs : Rw), vs = [.ref a] ∧ Seq H a xs ∧ xs.length ≤ 40000 ∧ RowsS H xs rs ∧ ∀ p ys H2, H p = none → Ex H H2 → H2 p = some (.tup ys) → RowsAt H2 ys rs → Q (.ref p) H2
theorem as_no {f : Addr} {fd : FuncData} (F : Fun K "as_tuples" "as_tuples" s_as_tuples f fd) : FnOk P w K mg base CX0 1 f fd ["value"] spNo := F.ok S_as_tuples (fun vs H Q E h => h.elim) (fun cdv A outer s H vs Q E hr h => h.elim)
theorem as_0 {f : Addr} {fd : FuncData} (F : Fun K "as_tuples" "as_tuples" s_as_tuples f fd) (T : Top K mg C_Cut) (b_as_tuples : Binds K fd ["value"] []) (m_as_tuples : mg "as_tuples" = some (.ref f)) (k_as_tuples : PySem.W.keepIn K (.ref f) = true) : FnOk P w K mg base CX0 2 f fd ["value"] spAs0 := by
  have G_as_tuples := as_no (P := P) (w := w) (mg := mg) (base := base) F
  refine F.ok S_as_tuples (fun vs H Q E h => ?_) (fun cdv A outer s H vs Q E hr h => ?_)
  · obtain ⟨x, rfl, _⟩ := h
    rfl
  obtain ⟨x, rfl, hx, q⟩ := h
  refine ⟨_, (pss_cons
    (ps_if (pt_val (pe_callB call_isiT rfl T.z_isinstance (by decide +kernel) (pa_cons (pv 0) (pa_cons (pe_tup (pa_cons (pe_bltn (v := .ty "list") rfl T.z_list (by decide +kernel) rfl) (pa_cons (pe_bltn (v := .ty "tuple") rfl T.z_tuple (by decide +kernel) rfl) pa_nil))) pa_nil)))) (pss_one
    (ps_ret (pe_callTy call_tuple_of rfl T.z_tuple (by decide +kernel) (pa_cons (pe_lc (own := [("item", 1)]) (g := gName 1) (tt := tYes) rfl S_as_tuples.nd (pi_seq (pv 0)) (blkOk_by (N := N_as_tuples) (sc := defScope s_as_tuples) (by decide +kernel)) (fun _ _ _ _ _ => pg_name (i := 1) S_as_tuples.nd rfl (Or.inl rfl)) (fun _ _ _ _ _ => pts_nil) (fun _ _ _ _ _ => (pe_call G_as_tuples (hr.mono (by omega)) rfl m_as_tuples k_as_tuples b_as_tuples .nil pass0 (pa_cons (pv 1) pa_nil)))) pa_nil)))) pss_nil)
    (pss_one
    (ps_ret (pv 0)))), ?_⟩
  have ht : ∃ t : Value, (∀ H1, Ex H H1 → TyX K H1 x t) ∧ PySem.W.kitAny K t [.type "list", .type "tuple"] = some false := by
    rcases hx with ⟨n, rfl⟩ | ⟨z, rfl⟩
    · exact ⟨.type "int", fun _ _ => .base (.int n), kit_no (by decide +kernel) (by decide +kernel)⟩
    · exact ⟨.type "str", fun _ _ => .base (.str z), kit_no (by decide +kernel) (by decide +kernel)⟩
  obtain ⟨t, ht, hb⟩ := ht
  refine q_skip (et_B (ev_isT (ev_var rfl) (eu_tup (ea_cons ev_c (ea_cons ev_c ea_nil)) (by show 2 ≤ 100000; decide)) ht hb)) fun H1 e1 => ?_
  exact s_ret (ev_var rfl) fun H2 e2 => q H2 (e1.trans e2)
theorem sv_as0 {x : V} {H : Hp} (h : flatT x) : SpV spAs0 ([x] ++ []) H x := fun _ _ _ q _ => ⟨x, rfl, h, q⟩
theorem as_1 {f : Addr} {fd : FuncData} (F : Fun K "as_tuples" "as_tuples" s_as_tuples f fd) (T : Top K mg C_Cut) (b_as_tuples : Binds K fd ["value"] []) (m_as_tuples : mg "as_tuples" = some (.ref f)) (k_as_tuples : PySem.W.keepIn K (.ref f) = true) : FnOk P w K mg base CX0 3 f fd ["value"] spAs1 := by
  have G_as_tuples := as_0 (P := P) (w := w) (base := base) F T b_as_tuples m_as_tuples k_as_tuples
  refine F.ok S_as_tuples (fun vs H Q E h => ?_) (fun cdv A outer s H vs Q E hr h => ?_)
  · obtain ⟨a, xs, rfl, _⟩ := h
    rfl
  obtain ⟨a, xs, rfl, hS, hz, hx, q⟩ := h
  refine ⟨_, (pss_cons
    (ps_if (pt_val (pe_callB call_isiT rfl T.z_isinstance (by decide +kernel) (pa_cons (pv 0) (pa_cons (pe_tup (pa_cons (pe_bltn (v := .ty "list") rfl T.z_list (by decide +kernel) rfl) (pa_cons (pe_bltn (v := .ty "tuple") rfl T.z_tuple (by decide +kernel) rfl) pa_nil))) pa_nil)))) (pss_one
    (ps_ret (pe_callTy call_tuple_of rfl T.z_tuple (by decide +kernel) (pa_cons (pe_lc (own := [("item", 1)]) (g := gName 1) (tt := tYes) rfl S_as_tuples.nd (pi_seq (pv 0)) (blkOk_by (N := N_as_tuples) (sc := defScope s_as_tuples) (by decide +kernel)) (fun _ _ _ _ _ => pg_name (i := 1) S_as_tuples.nd rfl (Or.inl rfl)) (fun _ _ _ _ _ => pts_nil) (fun _ _ _ _ _ => (pe_call G_as_tuples (hr.mono (by omega)) rfl m_as_tuples k_as_tuples b_as_tuples .nil pass0 (pa_cons (pv 1) pa_nil)))) pa_nil)))) pss_nil)
    (pss_one
    (ps_ret (pv 0)))), ?_⟩
  obtain ⟨t, ht, hb⟩ := hS.ty (K := K)
  refine q_take (et_B (ev_isT (ev_var rfl) (eu_tup (ea_cons ev_c (ea_cons ev_c ea_nil)) (by show 2 ≤ 100000; decide)) ht hb)) fun H1 e1 => ?_
  have hS1 := hS.mono e1
  refine s_retU (xs := xs) (eu_tupOfL ?_) fun p H2 hp e2 h2 => q p H2 (fresh_back e1 hp) (e1.trans e2) h2
  intro H2 e2 Q2 q2
  refine run_lcSeq (σ := [some (.ref a), none]) (ev_var rfl) (hS1.mono e2) (fun Dl i H' => H2 Dl = none ∧ Ex H2 H' ∧ H' Dl = some (.lst (xs.take i))) (fun H3 Dl e3 hD => ⟨fresh_back e3 hD, e3.trans (Ex.new hD), upd_same⟩) (fun Dl i H' p => p.2.1) ?_ ?_
  · intro Dl i x H' hi p
    have hlt := (List.getElem?_eq_some_iff.mp hi).1
    refine ⟨rfl, (ev_call (z := x) (ea_cons (ev_var rfl) ea_nil) (sv_as0 (hx x (List.mem_of_getElem? hi)))) H' (Ex.refl H') _ fun H3 e3 => ⟨xs.take i, e3 _ _ p.2.2, sz_lt (by rw [List.length_take]; omega), p.1, (p.2.1.trans e3).mut p.1, ?_⟩⟩
    rw [List.take_add_one, hi]
    exact upd_same
  · intro Dl H' p
    have p3 := p.2.2
    rw [List.take_length] at p3
    exact q2 Dl H' p.1 p.2.1 p3
theorem su_as1 {a : Addr} {xs : List V} {H : Hp} (h : Seq H a xs) (hz : xs.length ≤ 40000) (hx : ∀ x ∈ xs, flatT x) : SpU spAs1 ([.ref a] ++ []) H xs := fun _ e _ q _ => ⟨a, xs, rfl, h.mono e, hz, hx, q⟩
theorem as_2 {f : Addr} {fd : FuncData} (F : Fun K "as_tuples" "as_tuples" s_as_tuples f fd) (T : Top K mg C_Cut) (b_as_tuples : Binds K fd ["value"] []) (m_as_tuples : mg "as_tuples" = some (.ref f)) (k_as_tuples : PySem.W.keepIn K (.ref f) = true) : FnOk P w K mg base CX0 4 f fd ["value"] spAs2 := by
  have G_as_tuples := as_1 (P := P) (w := w) (base := base) F T b_as_tuples m_as_tuples k_as_tuples
  refine F.ok S_as_tuples (fun vs H Q E h => ?_) (fun cdv A outer s H vs Q E hr h => ?_)
  · obtain ⟨a, xs, rs, rfl, _⟩ := h
    rfl
  obtain ⟨a, xs, rs, rfl, hS, hz, hR, q⟩ := h
  refine ⟨_, (pss_cons
    (ps_if (pt_val (pe_callB call_isiT rfl T.z_isinstance (by decide +kernel) (pa_cons (pv 0) (pa_cons (pe_tup (pa_cons (pe_bltn (v := .ty "list") rfl T.z_list (by decide +kernel) rfl) (pa_cons (pe_bltn (v := .ty "tuple") rfl T.z_tuple (by decide +kernel) rfl) pa_nil))) pa_nil)))) (pss_one
    (ps_ret (pe_callTy call_tuple_of rfl T.z_tuple (by decide +kernel) (pa_cons (pe_lc (own := [("item", 1)]) (g := gName 1) (tt := tYes) rfl S_as_tuples.nd (pi_seq (pv 0)) (blkOk_by (N := N_as_tuples) (sc := defScope s_as_tuples) (by decide +kernel)) (fun _ _ _ _ _ => pg_name (i := 1) S_as_tuples.nd rfl (Or.inl rfl)) (fun _ _ _ _ _ => pts_nil) (fun _ _ _ _ _ => (pe_call G_as_tuples (hr.mono (by omega)) rfl m_as_tuples k_as_tuples b_as_tuples .nil pass0 (pa_cons (pv 1) pa_nil)))) pa_nil)))) pss_nil)
    (pss_one
    (ps_ret (pv 0)))), ?_⟩
  obtain ⟨t, ht, hb⟩ := hS.ty (K := K)
  refine q_take (et_B (ev_isT (ev_var rfl) (eu_tup (ea_cons ev_c (ea_cons ev_c ea_nil)) (by show 2 ≤ 100000; decide)) ht hb)) fun H1 e1 => ?_
  have hS1 := hS.mono e1
  refine s_retTup (run_lcSeq (ev_var rfl) hS1 (fun Dl i H' => H1 Dl = none ∧ Ex H1 H' ∧ ∃ ys, H' Dl = some (.lst ys) ∧ RowsAt H' ys (rs.take i)) (fun H3 Dl e3 hD => ⟨fresh_back e3 hD, e3.trans (Ex.new hD), [], upd_same, .nil⟩) (fun Dl i H' p => p.2.1) ?_ ?_)
  · intro Dl i x H' hi p
    obtain ⟨p1, p2, ys, p3, p4⟩ := p
    obtain ⟨hlt, r, rfl, hr⟩ := hR.get hi
    have hr2 := hr.mono (e1.trans p2)
    refine ⟨rfl, (eu_call (ea_cons (ev_var rfl) ea_nil) (su_as1 (xs := [.int ((rowAt rs i).1 : Int), tx [(rowAt rs i).2]]) hr2 (by show 2 ≤ 40000; decide) (fun x hx => ?_))) H' (Ex.refl H') _ fun r2 H3 hr3 e3 h3 => ?_⟩
    · rcases List.mem_cons.mp hx with rfl | hx
      · exact .inl ⟨_, rfl⟩
      · rw [List.mem_singleton.mp hx]
        exact .inr ⟨_, rfl⟩
    · have hl := p4.len
      rw [List.length_take] at hl
      have hx := hR.len
      refine ⟨ys, e3 _ _ p3, sz_lt (by omega), p1, (p2.trans e3).mut p1, ys ++ [.ref r2], upd_same, ?_⟩
      have g := (p4.mono e3).snoc (r := r2) (p := (rowAt rs i).1) (c := (rowAt rs i).2) h3
      have et : rs.take (i + 1) = rs.take i ++ [((rowAt rs i).1, (rowAt rs i).2)] := by
        rw [List.take_add_one, rowAt_get hlt]
        rfl
      rw [et]
      exact g.upd (e3 _ _ p3) fun ys => by
        intro z
        cases z
  · intro Dl H' p
    obtain ⟨p1, p2, ys, p3, p4⟩ := p
    refine ⟨Dl, ys, rfl, .inl ⟨sq_of p3, fun l hl => ?_⟩⟩
    have e9 : rs.take xs.length = rs := List.take_of_length_le (by rw [hR.len]; exact Nat.le_refl _)
    rw [e9] at p4
    exact q l ys _ (fresh_back (e1.trans p2) hl) ((e1.trans p2).trans (Ex.new hl)) upd_same (p4.mono (Ex.new hl))
theorem has_as (F : At K mg "as_tuples" s_as_tuples) (T : Top K mg C_Cut) : Has P w K mg base "as_tuples" s_as_tuples ["value"] 4 spAs2 := by
  obtain ⟨f, fd, F, m⟩ := F.ex
  have b := F.binds (ps := ["value"]) fun _ _ _ _ _ _ us hl => match us, hl with | [_], _ => rfl
  exact ⟨f, fd, F, as_2 F T b m F.kp, b, m, F.kp⟩
end
end Ver
namespace Ver
open PySem PySem.Spec PyProof.Rows L2 Evl
/-! ### dicts by rows -/
def kr (r : Nat × Nat) : List Key := [Sum.inl (r.1 : Int), Sum.inr (SX.S [r.2])]
theorem kr_map (r : Nat × Nat) : (kr r).map kV = [V.int (r.1 : Int), tx [r.2]] := rfl
theorem kr_inj {a b : Nat × Nat} (h : kr a = kr b) : a = b := by
  unfold kr at h
  have h1 := (List.cons.inj h).1
  have h2 := (List.cons.inj (List.cons.inj h).2).1
  have e1 : (a.1 : Int) = (b.1 : Int) := Sum.inl.inj h1
  have e2 := SX.S_inj (Sum.inr.inj h2)
  have e3 : a.2 = b.2 := (List.cons.inj e2).1
  exact Prod.ext (by omega) e3
structure DictAt (kvs : List (List Key × V)) (L : Rw) (v : Nat × Nat → V) : Prop where
  len : kvs.length = L.length
  there : ∀ r ∈ L, valV kvs (kr r) = some (v r)
  not : ∀ r, r ∉ L → valV kvs (kr r) = none
theorem DictAt.nil {v : Nat × Nat → V} : DictAt [] [] v := ⟨rfl, fun r h => (by cases h), fun r _ => rfl⟩
theorem DictAt.put {kvs : List (List Key × V)} {L : Rw} {v v' : Nat × Nat → V} {r : Nat × Nat} (h : DictAt kvs L v) (hr : r ∉ L) (he : ∀ q ∈ L, v' q = v q) : DictAt (putK kvs (kr r) (v' r)) (L ++ [r]) v' := by
  refine ⟨?_, fun q hq => ?_, fun q hq => ?_⟩
  · rw [putK_new _ (h.not r hr), List.length_append, List.length_append, h.len]
    rfl
  · rw [valV_put]
    by_cases c : q = r
    · rw [c, if_pos rfl]
    · rw [if_neg fun e => c (kr_inj e)]
      rcases List.mem_append.mp hq with hq | hq
      · rw [h.there q hq, he q hq]
      · exact absurd (List.mem_singleton.mp hq) c
  · rw [valV_put, if_neg fun e => hq (by rw [kr_inj e]; exact List.mem_append_right _ (List.mem_singleton.mpr rfl))]
    exact h.not q fun hm => hq (List.mem_append_left _ hm)
theorem take_row {rs : Rw} {i : Nat} (h : i < rs.length) : rs.take (i + 1) = rs.take i ++ [rowAt rs i] := by
  rw [List.take_add_one, rowAt_get h]
  rfl
theorem row_new {al : List Nat} {rs : Rw} (h : RowsOk al rs) {i : Nat} (hi : i < rs.length) : rowAt rs i ∉ rs.take i := by
  have g := h.take (i + 1)
  rw [take_row hi] at g
  exact (RowsOk.last (p := (rowAt rs i).1) (c := (rowAt rs i).2) g).2.2
section
variable {P : Program} {w : World} {K : PySem.W.Frag} {mg : Str → Option Value} {base : Heap} {C_Cut : Addr}
/-! ### check_rows -/
def spCkR (K : PySem.W.Frag) : Sp := fun vs H Q _ => ∃ (al : List Nat) (a : Addr) (xs : List V) (rs : Rw), vs = [tx al, .ref a] ∧ SqT K H a xs ∧ RowsAt H xs rs ∧ RowsOk al rs ∧ rs.length ≤ 1000 ∧ RetV .non H Q
theorem has_ckr (F : At K mg "check_rows" s_check_rows) (T : Top K mg C_Cut) (h1 : Has P w K mg base "is_letter" s_is_letter ["alphabet", "value"] 1 spLet) (h2 : Has P w K mg base "is_number_below" s_is_number_below ["value", "many"] 2 spBelow) : Has P w K mg base "check_rows" s_check_rows ["alphabet", "rows"] 3 (spCkR K) := by
  obtain ⟨f, fd, F, m⟩ := F.ex
  obtain ⟨f1, fd1, _, G_is_letter, b_is_letter, m_is_letter, k_is_letter⟩ := h1
  obtain ⟨f2, fd2, _, G_is_number_below, b_is_number_below, m_is_number_below, k_is_number_below⟩ := h2
  refine ⟨f, fd, F, F.ok S_check_rows (fun vs H Q E h => ?_) (fun cdv A outer s H vs Q E hr h => ?_), F.binds fun _ _ _ _ _ _ us hl => match us, hl with | [_, _], _ => rfl, m, F.kp⟩
  · obtain ⟨al, a, xs, rs, rfl, _⟩ := h
    rfl
  obtain ⟨al, a, xs, rs, rfl, hT, hR, ok, hz, q⟩ := h
  refine ⟨_, (pss_cons
    (ps_set (i := 2) S_check_rows.nd rfl (Or.inl rfl) pe_dnewT)
    (pss_one
    (ps_for PassesOwn.never rfl (pi_enumT rfl T.z_enumerate (pa_cons (pv 1) pa_nil)) (pg_tup rfl (pgs_cons (pg_name (i := 3) S_check_rows.nd rfl (Or.inl rfl)) (pgs_cons (pg_name (i := 4) S_check_rows.nd rfl (Or.inl rfl)) pgs_nil))) (pss_cons
    (ps_asg (pv 4) (pg_tup rfl (pgs_cons (pg_name (i := 5) S_check_rows.nd rfl (Or.inl rfl)) (pgs_cons (pg_name (i := 6) S_check_rows.nd rfl (Or.inl rfl)) pgs_nil))))
    (pss_cons
    (ps_if (pt_not (pt_val (pe_call G_is_number_below (hr.mono (by decide)) rfl m_is_number_below k_is_number_below b_is_number_below .nil pass0 (pa_cons (pv 5) (pa_cons (pe_op op_add (pv 3) pe_int) pa_nil))))) (pss_one
    ps_never) pss_nil)
    (pss_cons
    (ps_if (PW.pt (pw_or (pt_not (pt_val (pe_call G_is_letter (hr.mono (by decide)) rfl m_is_letter k_is_letter b_is_letter .nil pass0 (pa_cons (pv 0) (pa_cons (pv 6) pa_nil))))) (pw_or1 (pt_cmp (pc_din (hu_of hr) (pv 4) (pv 2)))))) (pss_one
    ps_never) pss_nil)
    (pss_one
    (ps_dput (hu_of hr) (pv 2) (pv 4) pe_bl rfl)))))))), ?_⟩
  refine q_newT fun d H1 hd e1 h1 => ?_
  refine s_forET (D := { nx := _, rt := _, bk := _, ct := _ }) (xs := xs) (ea_cons (ev_var rfl) ea_nil) (ex_t e1 hT)
    (fun i σ' H' => (∃ u3 u4 u5 u6, σ' = [some (tx al), some (.ref a), some (.ref d), u3, u4, u5, u6]) ∧ Ex H H' ∧ (∃ kvs, H' d = some (.dT kvs) ∧ DictAt kvs (rs.take i) (fun _ => .bl true))) ?_ ?_ ?_ ?_
  · intro H2 e2
    exact ⟨⟨none, none, none, none, rfl⟩, e1.trans e2, [], e2 _ _ h1, .nil⟩
  · intro i σ' H' p
    exact ex_t p.2.1 hT
  · intro i x σ' H' H2 hx p e2
    obtain ⟨⟨u3, u4, u5, u6, rfl⟩, e3, kvs, hk, dk⟩ := p
    obtain ⟨hi, r, rfl, hr⟩ := hR.get hx
    have hr2 := e2 _ _ (e3 _ _ hr)
    obtain ⟨low, mem⟩ := row_ok ok hi
    refine q_unp (ev_var rfl) hr2 fun H3 e4 => ?_
    refine q_skip (et_is (et_not (et_B (ev_call (ea_cons (ev_var rfl) (ea_cons (ev_op (ev_var rfl) ev_c rv_I0) ea_nil)) (sv_belowT (n := ((rowAt rs i).1 : Int)) (m := (i : Int) + 1) (by omega) (by omega))))) rfl) fun H4 e5 => ?_
    have e24 := (e2.trans e4).trans e5
    refine q_skip (et_is (et_or (et_not (et_B (ev_call (ea_cons (ev_var rfl) (ea_cons (ev_var rfl) ea_nil)) (sv_let mem)))) (fun _ => et_din (o := none) (ev_var rfl) (ev_var rfl) fun H5 e6 => ?_)) rfl) fun H5 e6 => ?_
    · have g := DGet.t (k := kr (rowAt rs i)) (e6 _ _ (e24 _ _ hk)) (e6 _ _ (e5 _ _ (e4 _ _ hr2)))
      rw [dk.not _ (row_new ok hi)] at g
      exact g
    · refine s_dput (g := fun H6 => L2.upd H6 d (.dT (putK kvs (kr (rowAt rs i)) (.bl true)))) ev_c (ev_var rfl) (ev_var rfl) (fun H6 e7 => ?_) fun H6 e7 => ?_
      · refine DPut.t (k := kr (rowAt rs i)) (e7 _ _ (e6 _ _ (e24 _ _ hk))) (e7 _ _ (e6 _ _ (e5 _ _ (e4 _ _ hr2)))) (sz_lt ?_)
        rw [dk.len, List.length_take]
        omega
      · refine ⟨⟨_, _, _, _, rfl⟩, ((e3.trans e24).trans (e6.trans e7)).mut hd, _, upd_same, ?_⟩
        rw [take_row hi]
        exact dk.put (v' := fun _ => .bl true) (row_new ok hi) fun _ _ => rfl
  · intro σ' H' p
    exact q H' p.2.1
theorem sv_ckr {al : List Nat} {a : Addr} {xs : List V} {rs : Rw} {H : Hp} (hT : SqT K H a xs) (hR : RowsAt H xs rs) (ok : RowsOk al rs) (hz : rs.length ≤ 1000) : SpV (spCkR K) ([tx al, .ref a] ++ []) H .non := fun _ e _ q _ => ⟨al, a, xs, rs, rfl, ex_t e hT, hR.mono e, ok, hz, q⟩
/-! ### pieces_of, starts_of -/
theorem pcs_at (rs : Rw) (k : Nat) : ((pcs rs).getD k []).length ≤ rs.length := by
  induction rs using snoc_ind generalizing k with
  | h0 =>
    show (([[]] : List (List Nat)).getD k []).length ≤ 0
    match k with
    | 0 => exact Nat.le_refl 0
    | k + 1 => exact Nat.le_refl 0
  | hs rs r ih =>
    rw [pcs_snoc, List.getD_eq_getElem?_getD, List.length_append]
    show _ ≤ rs.length + 1
    by_cases h : k < (pcs rs).length
    · rw [List.getElem?_append_left h, ← List.getD_eq_getElem?_getD]
      have := ih k
      omega
    · rw [List.getElem?_append_right (by omega)]
      by_cases h2 : k - (pcs rs).length = 0
      · rw [h2]
        show ((pcs rs).getD r.1 [] ++ [r.2]).length ≤ _
        rw [List.length_append]
        have := ih r.1
        show _ + 1 ≤ _
        omega
      · obtain ⟨j, hj⟩ := Nat.exists_eq_succ_of_ne_zero h2
        rw [hj]
        show ([] : List Nat).length ≤ _
        exact Nat.zero_le _
def spPcs (K : PySem.W.Frag) : Sp := fun vs H Q _ => ∃ (al : List Nat) (a : Addr) (xs : List V) (rs : Rw), vs = [.ref a] ∧ SqT K H a xs ∧ RowsAt H xs rs ∧ RowsOk al rs ∧ rs.length ≤ 1000 ∧ RetU ((pcs rs).map tx) H Q
theorem has_pcs (F : At K mg "pieces_of" s_pieces_of) (T : Top K mg C_Cut) : Has P w K mg base "pieces_of" s_pieces_of ["rows"] 1 (spPcs K) := by
  obtain ⟨f, fd, F, m⟩ := F.ex
  refine ⟨f, fd, F, F.ok S_pieces_of (fun vs H Q E h => ?_) (fun cdv A outer s H vs Q E hr h => ?_), F.binds fun _ _ _ _ _ _ us hl => match us, hl with | [_], _ => rfl, m, F.kp⟩
  · obtain ⟨al, a, xs, rs, rfl, _⟩ := h
    rfl
  obtain ⟨al, a, xs, rs, rfl, hT, hR, ok, hz, q⟩ := h
  refine ⟨_, (pss_cons
    (ps_set (i := 1) S_pieces_of.nd rfl (Or.inl rfl) (pe_lst (pa_cons pe_str pa_nil)))
    (pss_cons
    (ps_for PassesOwn.never rfl (pi_tup (pv 0)) (pg_tup rfl (pgs_cons (pg_name (i := 2) S_pieces_of.nd rfl (Or.inl rfl)) (pgs_cons (pg_name (i := 3) S_pieces_of.nd rfl (Or.inl rfl)) pgs_nil))) (pss_one
    (ps_expr (pe_bm PySem.F.plainAttrs_list PySem.F.slot_list_append PySem.F.type_list_append mt_append (pv 1) (pa_cons (pe_op op_add_str (pe_ix (r := rIxL K) ix_list (pv 1) (pv 2) (fun _ _ => rfl)) (pv 3)) pa_nil)))))
    (pss_one
    (ps_ret (pe_callTy call_tuple_of rfl T.z_tuple (by decide +kernel) (pa_cons (pv 1) pa_nil)))))), ?_⟩
  refine q_asgL (xs := [tx []]) (el_lst (ea_cons (ev_is ev_c (by rw [nil_is])) ea_nil) (by show 1 ≤ 100000; decide)) fun l H1 hl e1 h1 => ?_
  refine q_forRows (ev_var rfl) (ex_t e1 hT) (hR.mono e1) (fun i σ' H' => (∃ u v, σ' = [some (.ref a), some (.ref l), u, v]) ∧ Ex H H' ∧ H' l = some (.lst ((pcs (rs.take i)).map tx))) ?_ ?_ ?_ ?_
  · intro H2 e2
    exact ⟨⟨none, none, rfl⟩, e1.trans e2, e2 _ _ h1⟩
  · intro i σ' H' p
    exact ⟨ex_t p.2.1 hT, hR.mono p.2.1⟩
  · intro i σ' H' hi p
    obtain ⟨⟨u, v, rfl⟩, e2, h2⟩ := p
    obtain ⟨low, mem⟩ := row_ok ok hi
    have hlen : (pcs (rs.take i)).length = i + 1 := by
      rw [pcs_len, List.length_take]
      omega
    have hlt : (rowAt rs i).1 < (pcs (rs.take i)).length := by omega
    have hpl := pcs_at (rs.take i) (rowAt rs i).1
    rw [List.length_take] at hpl
    have hg : ((pcs (rs.take i)).map tx)[(rowAt rs i).1]? = some (tx ((pcs (rs.take i)).getD (rowAt rs i).1 [])) := by
      rw [List.getElem?_map, List.getD_eq_getElem?_getD, List.getElem?_eq_getElem hlt]
      rfl
    refine s_app h2 (ev_var rfl) (ev_catS (b := [(rowAt rs i).2]) (by show _ + 1 ≤ 100000; omega) (ev_op (ev_var rfl) (ev_var rfl) (rv_ixL (sq_of h2) (atI_nat hg))) (ev_var rfl)) (by rw [List.length_map]; omega) fun H3 e3 => ⟨⟨_, _, rfl⟩, (e2.trans e3).mut hl, ?_⟩
    rw [take_row hi, pcs_snoc, List.map_append]
    exact upd_same
  · intro σ' H' p
    obtain ⟨⟨u, v, rfl⟩, e2, h2⟩ := p
    rw [List.take_length] at h2
    exact s_retU (eu_tupOf (ev_var rfl) (sq_of h2)) fun r H3 hr e3 h3 => q r H3 (fresh_back e2 hr) (e2.trans e3) h3
theorem su_pcs {al : List Nat} {a : Addr} {xs : List V} {rs : Rw} {H : Hp} (hT : SqT K H a xs) (hR : RowsAt H xs rs) (ok : RowsOk al rs) (hz : rs.length ≤ 1000) : SpU (spPcs K) ([.ref a] ++ []) H ((pcs rs).map tx) := fun _ e _ q _ => ⟨al, a, xs, rs, rfl, ex_t e hT, hR.mono e, ok, hz, q⟩
def sts (ps : List (List Nat)) : List Int := (List.range ps.length).map fun i => (((ps.drop 1).take i).flatten.length : Int)
def spSts (K : PySem.W.Frag) : Sp := fun vs H Q _ => ∃ (a : Addr) (ps : List (List Nat)), vs = [.ref a] ∧ SqT K H a (ps.map tx) ∧ 1 ≤ ps.length ∧ ps.length ≤ 2000 ∧ ps.flatten.length ≤ 50000 ∧ RetU ((sts ps).map V.int) H Q
theorem flat_take (ps : List (List Nat)) (i : Nat) : (ps.take i).flatten.length ≤ ps.flatten.length := by
  conv => rhs; rw [← List.take_append_drop i ps, List.flatten_append, List.length_append]
  omega
theorem has_sts (F : At K mg "starts_of" s_starts_of) (T : Top K mg C_Cut) : Has P w K mg base "starts_of" s_starts_of ["pieces"] 1 (spSts K) := by
  obtain ⟨f, fd, F, m⟩ := F.ex
  refine ⟨f, fd, F, F.ok S_starts_of (fun vs H Q E h => ?_) (fun cdv A outer s H vs Q E hr h => ?_), F.binds fun _ _ _ _ _ _ us hl => match us, hl with | [_], _ => rfl, m, F.kp⟩
  · obtain ⟨a, ps, rfl, _⟩ := h
    rfl
  obtain ⟨a, ps, rfl, hT, h1p, hz, hfl, q⟩ := h
  refine ⟨_, (pss_cons
    (ps_set (i := 1) S_starts_of.nd rfl (Or.inl rfl) (pe_lst pa_nil))
    (pss_cons
    (ps_set (i := 2) S_starts_of.nd rfl (Or.inl rfl) pe_int)
    (pss_cons
    (ps_for PassesOwn.never rfl (pi_tup (pe_slice sl_tup (pv 0) (po_some pe_int) po_none)) (pg_name (i := 3) S_starts_of.nd rfl (Or.inl rfl)) (pss_cons
    (ps_expr (pe_bm PySem.F.plainAttrs_list PySem.F.slot_list_append PySem.F.type_list_append mt_append (pv 1) (pa_cons (pv 2) pa_nil)))
    (pss_one
    (ps_aug (i := 2) S_starts_of.nd rfl (Or.inl rfl) (pe_callB call_len_str rfl T.z_len PySem.boot_len (pa_cons (pv 3) pa_nil)) ip_add))))
    (pss_cons
    (ps_expr (pe_bm PySem.F.plainAttrs_list PySem.F.slot_list_append PySem.F.type_list_append mt_append (pv 1) (pa_cons (pv 2) pa_nil)))
    (pss_one
    (ps_ret (pe_callTy call_tuple_of rfl T.z_tuple (by decide +kernel) (pa_cons (pv 1) pa_nil)))))))), ?_⟩
  have hdl : (ps.drop 1).flatten.length ≤ 50000 := by
    have : ps.flatten.length = (ps.take 1).flatten.length + (ps.drop 1).flatten.length := by
      conv => lhs; rw [← List.take_append_drop 1 ps, List.flatten_append, List.length_append]
    omega
  refine q_asgL (xs := []) (el_lst ea_nil (by decide)) fun l H1 hl e1 h1 => ?_
  refine q_asg ev_c fun H2 e2 => ?_
  have e12 := e1.trans e2
  have hsl : EvU (tSl (rSlT K) (tVar 0) (tPart (tC (.int 1))) tNoPart) [some (.ref a), some (.ref l), some (.int 0), none] H2 ((ps.drop 1).map tx) := fun H3 e3 Q' q' => by
    refine ⟨_, rfl, 1, rfl, a, ps.map tx, rfl, ex_t (e12.trans e3) hT, ?_, fun r hr => ?_⟩
    · rw [show (1 : Int) = ((1 : Nat) : Int) from rfl, HT.sIx_nat, List.length_map]
      omega
    · have ec : cutV (ps.map tx) (some 1) none = (ps.drop 1).map tx := by
        unfold cutV
        rw [show (1 : Int) = ((1 : Nat) : Int) from rfl, HT.sIx_nat, HT.sIx_none, List.length_map, Nat.min_eq_left h1p, List.map_drop]
        exact List.take_of_length_le (by rw [List.length_drop, List.length_map]; omega)
      rw [ec]
      exact q' r _ hr (Ex.new hr) upd_same
  refine hsl H2 (Ex.refl H2) _ fun s2 H3 hs2 e3 h3 => ?_
  refine ⟨s2, rfl, ⟨_, st_of h3⟩, for_tup (xs := (ps.drop 1).map tx) (fun i σ' H' => (∃ u, σ' = [some (.ref a), some (.ref l), some (.int ((((ps.drop 1).take i).flatten.length : Nat) : Int)), u]) ∧ Ex H H' ∧ H' s2 = some (.tup ((ps.drop 1).map tx)) ∧ H' l = some (.lst (((List.range i).map fun i => (((ps.drop 1).take i).flatten.length : Int)).map V.int))) ?_ ?_ ?_ ?_⟩
  · exact ⟨⟨none, rfl⟩, e12.trans e3, h3, e3 _ _ (e2 _ _ h1)⟩
  · intro i σ' H' _ p
    exact st_of p.2.2.1
  · intro i x σ' H' hx p
    obtain ⟨⟨u, rfl⟩, e4, h4, h5⟩ := p
    rw [List.getElem?_map] at hx
    cases hp : (ps.drop 1)[i]? with
    | none =>
      rw [hp] at hx
      cases hx
    | some pc =>
    rw [hp] at hx
    cases hx
    have hi := (List.getElem?_eq_some_iff.mp hp).1
    rw [List.length_drop] at hi
    have et : (ps.drop 1).take (i + 1) = (ps.drop 1).take i ++ [pc] := by
      rw [List.take_add_one, hp]
      rfl
    have hf := flat_take (ps.drop 1) (i + 1)
    rw [et, List.flatten_append, List.length_append] at hf
    have hpc : [pc].flatten.length = pc.length := by simp
    have nls : l ≠ s2 := ne_of h5 h4 (by intro z; cases z)
    refine q_app h5 (ev_var rfl) (ev_var rfl) (by rw [List.length_map, List.length_map, List.length_range]; omega) fun H4 e5 => ?_
    refine s_aug (f := fun a b => a + b) (a := (((ps.drop 1).take i).flatten.length : Int)) rfl (ev_lenS (l := pc) (by omega) (ev_var rfl)) fun H5 e6 => ⟨⟨some (tx pc), ?_⟩, ((e4.trans e5).mut hl).trans e6, ?_, ?_⟩
    · rw [et, List.flatten_append, List.length_append, hpc, Int.natCast_add]
      rfl
    · refine e6 _ _ ?_
      rw [upd_ne nls.symm]
      exact e5 _ _ h4
    · refine e6 _ _ ?_
      rw [map_range_succ]
      exact upd_same
  · intro σ' H' p
    obtain ⟨⟨u, rfl⟩, e4, h4, h5⟩ := p
    have hln : ((ps.drop 1).map tx).length = ps.length - 1 := by rw [List.length_map, List.length_drop]
    rw [hln] at h5 ⊢
    refine q_app h5 (ev_var rfl) (ev_var rfl) (by rw [List.length_map, List.length_map, List.length_range]; omega) fun H4 e5 => ?_
    rw [← map_range_succ (fun i => (((ps.drop 1).take i).flatten.length : Int))]
    have e7 : ps.length - 1 + 1 = ps.length := by omega
    rw [e7]
    exact s_retU (xs := (sts ps).map V.int) (eu_tupOf (ev_var rfl) (sq_of upd_same)) fun r H5 hr e6 h6 => q r H5 (fresh_back ((e4.trans e5).mut hl) hr) (((e4.trans e5).mut hl).trans e6) h6
theorem su_sts {a : Addr} {ps : List (List Nat)} {H : Hp} (hT : SqT K H a (ps.map tx)) (h1 : 1 ≤ ps.length) (hz : ps.length ≤ 2000) (hf : ps.flatten.length ≤ 50000) : SpU (spSts K) ([.ref a] ++ []) H ((sts ps).map V.int) := fun _ e _ q _ => ⟨a, ps, rfl, ex_t e hT, h1, hz, hf, q⟩
end
end Ver
namespace Ver
open PySem PySem.Spec PyProof.Rows L2 Evl
/-! ### the fields of a Cut -/
def cutFs (al : List Nat) (ra : Addr) (t : Int) (pa : Addr) (m : Int) (tt : List Nat) (sa : Addr) : List (Str × V) :=
  putF "starts" (.ref sa) (putF "text" (tx tt) (putF "many" (.int m) (putF "pieces" (.ref pa) (putF "tail" (.int t) (putF "rows" (.ref ra) (putF "alphabet" (tx al) []))))))
theorem putF_len (f : Str) (y : V) : ∀ fs : List (Str × V), (putF f y fs).length ≤ fs.length + 1
  | [] => Nat.le_refl _
  | p :: r => by
    unfold putF
    split
    · show _ ≤ r.length + 1 + 1
      simp
    · have := putF_len f y r
      show (putF f y r).length + 1 ≤ r.length + 1 + 1
      omega
structure CutAt (C : Addr) (H : Hp) (p : Addr) (al : List Nat) (rs : Rw) (t : Nat) : Prop where
  ex : ∃ (dx ra pa sa : Addr) (xs : List V), H p = some (.ins C dx (cutFs al ra (t : Int) pa (rs.length : Int) ((pcs rs).flatten ++ (pcs rs).getD t []) sa)) ∧
    H ra = some (.tup xs) ∧ RowsAt H xs rs ∧ H pa = some (.tup ((pcs rs).map tx)) ∧ H sa = some (.tup ((sts (pcs rs)).map V.int))
theorem CutAt.mono {C : Addr} {H H' : Hp} {p : Addr} {al : List Nat} {rs : Rw} {t : Nat} (h : CutAt C H p al rs t) (e : Ex H H') : CutAt C H' p al rs t := by
  obtain ⟨dx, ra, pa, sa, xs, h1, h2, h3, h4, h5⟩ := h.ex
  exact ⟨dx, ra, pa, sa, xs, e _ _ h1, e _ _ h2, h3.mono e, e _ _ h4, e _ _ h5⟩
theorem fs_rows {al : List Nat} {ra pa sa : Addr} {t m : Int} {tt : List Nat} : (cutFs al ra t pa m tt sa).lookup ("rows" : Str) = some (.ref ra) := by
  unfold cutFs
  rw [lookup_putF, if_neg (by decide +kernel), lookup_putF, if_neg (by decide +kernel), lookup_putF, if_neg (by decide +kernel), lookup_putF, if_neg (by decide +kernel), lookup_putF, if_neg (by decide +kernel), lookup_putF, if_pos rfl]
theorem fs_many {al : List Nat} {ra pa sa : Addr} {t m : Int} {tt : List Nat} : (cutFs al ra t pa m tt sa).lookup ("many" : Str) = some (.int m) := by
  unfold cutFs
  rw [lookup_putF, if_neg (by decide +kernel), lookup_putF, if_neg (by decide +kernel), lookup_putF, if_pos rfl]
theorem fs_tail {al : List Nat} {ra pa sa : Addr} {t m : Int} {tt : List Nat} : (cutFs al ra t pa m tt sa).lookup ("tail" : Str) = some (.int t) := by
  unfold cutFs
  rw [lookup_putF, if_neg (by decide +kernel), lookup_putF, if_neg (by decide +kernel), lookup_putF, if_neg (by decide +kernel), lookup_putF, if_neg (by decide +kernel), lookup_putF, if_pos rfl]
/-- on the way: the instance at p has the fields fs, the rows stand at ra -/
structure Way (C : Addr) (H0 : Hp) (p dx ra : Addr) (ys : List V) (rs : Rw) (fs : List (Str × V)) (H : Hp) : Prop where
  e : Ex H0 H
  ins : H p = some (.ins C dx fs)
  row : H ra = some (.tup ys)
  rat : RowsAt H ys rs
theorem Way.mono {C : Addr} {H0 : Hp} {p dx ra : Addr} {ys : List V} {rs : Rw} {fs : List (Str × V)} {H H' : Hp} (h : Way C H0 p dx ra ys rs fs H) (e : Ex H H') : Way C H0 p dx ra ys rs fs H' := ⟨h.e.trans e, e _ _ h.ins, e _ _ h.row, h.rat.mono e⟩
theorem tup_upd {H : Hp} {p q C dx : Addr} {fs gs : List (Str × V)} {ys : List V} (hp : H p = some (.ins C dx fs)) (h : H q = some (.tup ys)) : (upd H p (.ins C dx gs)) q = some (.tup ys) := by
  rw [upd_ne (ne_of h hp (by intro z; cases z))]
  exact h
theorem Way.put {C : Addr} {H0 : Hp} {p dx ra : Addr} {ys : List V} {rs : Rw} {fs gs : List (Str × V)} {H : Hp} (h : Way C H0 p dx ra ys rs fs H) (hp : H0 p = none) : Way C H0 p dx ra ys rs gs (upd H p (.ins C dx gs)) :=
  ⟨h.e.mut hp, upd_same, tup_upd h.ins h.row, h.rat.upd h.ins (fun ys => by intro z; cases z)⟩
section
variable {P : Program} {w : World} {K : PySem.W.Frag} {mg : Str → Option Value} {base : Heap} {C_Cut : Addr}
/-! ### Cut.__init__ -/
def spInit (C : Addr) : Sp := fun vs H Q _ => ∃ (al : List Nat) (p a dx : Addr) (t : Nat) (xs : List V) (rs : Rw) (H0 : Hp), vs = [.ref p, tx al, .ref a, .int (t : Int)] ∧ Ex H0 H ∧ H0 p = none ∧ H p = some (.ins C dx []) ∧
  Seq H0 a xs ∧ RowsS H0 xs rs ∧ Alf al ∧ RowsOk al rs ∧ t ≤ rs.length ∧ rs.length ≤ 1000 ∧ (pcs rs).flatten.length ≤ 40000 ∧ ∀ H2, Ex H0 H2 → CutAt C H2 p al rs t → Q .non H2
theorem has_init (F : AtI K C_Cut "Cut.__init__" s_Cut___init__) (T : Top K mg C_Cut) (h1 : Has P w K mg base "check_alphabet" s_check_alphabet ["alphabet"] 2 spCkAl) (h2 : Has P w K mg base "as_tuples" s_as_tuples ["value"] 4 spAs2)
    (h3 : Has P w K mg base "check_rows" s_check_rows ["alphabet", "rows"] 3 (spCkR K)) (h4 : Has P w K mg base "is_number_below" s_is_number_below ["value", "many"] 2 spBelow) (h5 : Has P w K mg base "pieces_of" s_pieces_of ["rows"] 1 (spPcs K)) (h6 : Has P w K mg base "starts_of" s_starts_of ["pieces"] 1 (spSts K)) :
    HasI P w K mg base C_Cut ["self", "alphabet", "rows", "tail"] 5 (spInit C_Cut) := by
  obtain ⟨f, fd, F, M⟩ := F.ex
  obtain ⟨f1, fd1, _, G_check_alphabet, b_check_alphabet, m_check_alphabet, k_check_alphabet⟩ := h1
  obtain ⟨f2, fd2, _, G_as_tuples, b_as_tuples, m_as_tuples, k_as_tuples⟩ := h2
  obtain ⟨f3, fd3, _, G_check_rows, b_check_rows, m_check_rows, k_check_rows⟩ := h3
  obtain ⟨f4, fd4, _, G_is_number_below, b_is_number_below, m_is_number_below, k_is_number_below⟩ := h4
  obtain ⟨f5, fd5, _, G_pieces_of, b_pieces_of, m_pieces_of, k_pieces_of⟩ := h5
  obtain ⟨f6, fd6, _, G_starts_of, b_starts_of, m_starts_of, k_starts_of⟩ := h6
  refine ⟨f, fd, F.ok S_Cut___init__ (fun vs H Q E h => ?_) (fun cdv A outer s H vs Q E hr h => ?_), F.binds fun _ _ _ _ _ _ us hl => match us, hl with | [_, _, _, _], _ => rfl, M⟩
  · obtain ⟨al, p, a, dx, t, xs, rs, H0, rfl, _⟩ := h
    rfl
  obtain ⟨al, p, a, dx, t, xs, rs, H0, rfl, e0, hp0, hp, hS, hR, hA, ok, ht, hz, hfl, q⟩ := h
  refine ⟨_, (pss_cons
    (ps_expr (pe_call G_check_alphabet (hr.mono (by decide)) rfl m_check_alphabet k_check_alphabet b_check_alphabet .nil pass0 (pa_cons (pv 1) pa_nil)))
    (pss_cons
    (ps_set (i := 4) S_Cut___init__.nd rfl (Or.inl rfl) (pe_call G_as_tuples (hr.mono (by decide)) rfl m_as_tuples k_as_tuples b_as_tuples .nil pass0 (pa_cons (pv 2) pa_nil)))
    (pss_cons
    (ps_expr (pe_call G_check_rows (hr.mono (by decide)) rfl m_check_rows k_check_rows b_check_rows .nil pass0 (pa_cons (pv 1) (pa_cons (pv 4) pa_nil))))
    (pss_cons
    (ps_if (pt_not (pt_val (pe_call G_is_number_below (hr.mono (by decide)) rfl m_is_number_below k_is_number_below b_is_number_below .nil pass0 (pa_cons (pv 3) (pa_cons (pe_op op_add (pe_callB call_len_seq rfl T.z_len PySem.boot_len (pa_cons (pv 4) pa_nil)) pe_int) pa_nil))))) (pss_one
    ps_never) pss_nil)
    (pss_cons
    (ps_fld (pv 0) (pv 1) rfl)
    (pss_cons
    (ps_fld (pv 0) (pv 4) rfl)
    (pss_cons
    (ps_fld (pv 0) (pv 3) rfl)
    (pss_cons
    (ps_fld (pv 0) (pe_call G_pieces_of (hr.mono (by decide)) rfl m_pieces_of k_pieces_of b_pieces_of .nil pass0 (pa_cons (pv 4) pa_nil)) rfl)
    (pss_cons
    (ps_fld (pv 0) (pe_callB call_len_seq rfl T.z_len PySem.boot_len (pa_cons (pv 4) pa_nil)) rfl)
    (pss_cons
    (ps_fld (pv 0) (pe_op op_add_str (pe_join pe_str (pe_fld (pv 0) rfl)) (pe_ix (r := rIxT K) ix_tup (pe_fld (pv 0) rfl) (pv 3) (fun _ _ => rfl))) rfl)
    (pss_one
    (ps_fld (pv 0) (pe_call G_starts_of (hr.mono (by decide)) rfl m_starts_of k_starts_of b_starts_of .nil pass0 (pa_cons (pe_fld (pv 0) rfl) pa_nil)) rfl)))))))))))), ?_⟩
  refine q_drop (ev_call (ea_cons (ev_var rfl) ea_nil) (sv_ckal hA)) fun H1 e1 => ?_
  -- kept = as_tuples(rows)
  refine q_callD (vs := [.ref a]) (dvs := []) (ea_cons (ev_var rfl) ea_nil) fun H2 e2 => ⟨a, xs, rs, rfl, hS.mono (e0.trans (e1.trans e2)), by rw [hR.len]; omega, hR.mono (e0.trans (e1.trans e2)), fun ra ys H3 hra e3 h3 hR3 => ?_⟩
  have e13 := (e1.trans e2).trans e3
  refine q_drop (ev_call (ea_cons (ev_var rfl) (ea_cons (ev_var rfl) ea_nil)) (sv_ckr (st_of h3) hR3 ok hz)) fun H4 e4 => ?_
  have hlen : (((ys.length : Nat) : Int)) = (rs.length : Int) := by rw [hR3.len]
  refine q_skip (et_is (et_not (et_B (ev_call (ea_cons (ev_var rfl) (ea_cons (ev_op (ev_cb (ea_cons (ev_var rfl) ea_nil) (rc_lenT (st_of (e4 _ _ h3)))) ev_c rv_I0) ea_nil)) (sv_belowT (n := (t : Int)) (m := (ys.length : Int) + 1) (by omega) (by omega))))) rfl) fun H5 e5 => ?_
  have e05 := e13.trans (e4.trans e5)
  have h5 := e5 _ _ (e4 _ _ h3)
  have hR5 := hR3.mono (e4.trans e5)
  have cl := T.cl_Cut
  -- fields
  have w5 : Way C_Cut H0 p dx ra ys rs [] H5 := ⟨e0.trans e05, e05 _ _ hp, h5, hR5⟩
  have small : ∀ (f : Str) (y : V) (fs : List (Str × V)) (n : Nat), fs.length ≤ n → (putF f y fs).length ≤ n + 1 := fun f y fs n h => Nat.le_trans (putF_len f y fs) (by omega)
  refine q_fld (ev_var rfl) (ev_var rfl) w5.ins cl T.n_Cut_alphabet (by show 0 < 1000; decide) fun H6 e6 => ?_
  have w6 := (w5.mono e6).put (gs := putF "alphabet" (tx al) []) hp0
  have z6 := small "alphabet" (tx al) [] 0 (Nat.le_refl 0)
  generalize hf6 : putF ("alphabet" : Str) (tx al) [] = F6 at w6 z6 ⊢
  generalize upd H6 p (.ins C_Cut dx F6) = G6 at w6 ⊢
  refine q_fld (ev_var rfl) (ev_var rfl) w6.ins cl T.n_Cut_rows (by omega) fun H7 e7 => ?_
  have w7 := (w6.mono e7).put (gs := putF "rows" (.ref ra) F6) hp0
  have z7 := small "rows" (.ref ra) F6 1 (by omega)
  generalize hf7 : putF ("rows" : Str) (.ref ra) F6 = F7 at w7 z7 ⊢
  generalize upd H7 p (.ins C_Cut dx F7) = G7 at w7 ⊢
  refine q_fld (ev_var rfl) (ev_var rfl) w7.ins cl T.n_Cut_tail (by omega) fun H8 e8 => ?_
  have w8 := (w7.mono e8).put (gs := putF "tail" (.int (t : Int)) F7) hp0
  have z8 := small "tail" (.int (t : Int)) F7 2 (by omega)
  generalize hf8 : putF ("tail" : Str) (.int (t : Int)) F7 = F8 at w8 z8 ⊢
  generalize upd H8 p (.ins C_Cut dx F8) = G8 at w8 ⊢
  refine q_fldU (eu_call (ea_cons (ev_var rfl) ea_nil) (su_pcs (st_of w8.row) w8.rat ok hz)) (fun H9 e9 => ev_var rfl) w8.ins cl T.n_Cut_pieces (by omega) fun pa H9 hpa e9 h9 => ?_
  have h9' := tup_upd (gs := putF "pieces" (.ref pa) F8) (w8.mono e9).ins h9
  have w9 := (w8.mono e9).put (gs := putF "pieces" (.ref pa) F8) hp0
  have z9 := small "pieces" (.ref pa) F8 3 (by omega)
  have lk : (putF ("pieces" : Str) (.ref pa) F8).lookup ("pieces" : Str) = some (.ref pa) := by rw [lookup_putF, if_pos rfl]
  generalize hf9 : putF ("pieces" : Str) (.ref pa) F8 = F9 at w9 z9 lk h9' ⊢
  generalize upd H9 p (.ins C_Cut dx F9) = G9 at w9 h9' ⊢
  refine q_fld (ev_is (ev_cb (ea_cons (ev_var rfl) ea_nil) (rc_lenT (st_of w9.row))) (by rw [hlen])) (ev_var rfl) w9.ins cl T.n_Cut_many (by omega) fun H10 e10 => ?_
  have h10 := tup_upd (gs := putF "many" (.int (rs.length : Int)) F9) (w9.mono e10).ins (e10 _ _ h9')
  have w10 := (w9.mono e10).put (gs := putF "many" (.int (rs.length : Int)) F9) hp0
  have z10 := small "many" (.int (rs.length : Int)) F9 4 (by omega)
  have lk10 : (putF ("many" : Str) (.int (rs.length : Int)) F9).lookup ("pieces" : Str) = some (.ref pa) := by rw [lookup_putF, if_neg (by decide +kernel)]; exact lk
  generalize hf10 : putF ("many" : Str) (.int (rs.length : Int)) F9 = F10 at w10 z10 lk10 h10 ⊢
  generalize upd H10 p (.ins C_Cut dx F10) = G10 at w10 h10 ⊢
  have htl : t < (pcs rs).length := by
    rw [pcs_len]
    omega
  have hg : ((pcs rs).map tx)[t]? = some (tx ((pcs rs).getD t [])) := by
    rw [List.getElem?_map, List.getD_eq_getElem?_getD, List.getElem?_eq_getElem htl]
    rfl
  have hpt := pcs_at rs t
  refine q_fld (v := tx ((pcs rs).flatten ++ (pcs rs).getD t [])) (ev_catS (by omega) (ev_join (ev_is ev_c (by rw [nil_is])) (ev_fld (ev_var rfl) w10.ins cl T.n_Cut_pieces lk10) (.inr (st_of h10)) (by omega)) (ev_op (ev_fld (ev_var rfl) w10.ins cl T.n_Cut_pieces lk10) (ev_var rfl) (rv_ixT (st_of h10) (atI_nat hg)))) (ev_var rfl) w10.ins cl T.n_Cut_text (by omega) fun H11 e11 => ?_
  have h11 := tup_upd (gs := putF "text" (tx ((pcs rs).flatten ++ (pcs rs).getD t [])) F10) (w10.mono e11).ins (e11 _ _ h10)
  have w11 := (w10.mono e11).put (gs := putF "text" (tx ((pcs rs).flatten ++ (pcs rs).getD t [])) F10) hp0
  have z11 := small "text" (tx ((pcs rs).flatten ++ (pcs rs).getD t [])) F10 5 (by omega)
  have lk11 : (putF ("text" : Str) (tx ((pcs rs).flatten ++ (pcs rs).getD t [])) F10).lookup ("pieces" : Str) = some (.ref pa) := by rw [lookup_putF, if_neg (by decide +kernel)]; exact lk10
  generalize hf11 : putF ("text" : Str) (tx ((pcs rs).flatten ++ (pcs rs).getD t [])) F10 = F11 at w11 z11 lk11 h11 ⊢
  generalize upd H11 p (.ins C_Cut dx F11) = G11 at w11 h11 ⊢
  refine s_fldU (eu_call (vs := [.ref pa]) (ea_cons (ev_fld (ev_var rfl) w11.ins cl T.n_Cut_pieces lk11) ea_nil) (su_sts (st_of h11) (by rw [pcs_len]; omega) (by rw [pcs_len]; omega) (by omega))) (fun H12 e12 => ev_var rfl) w11.ins cl T.n_Cut_starts (by omega) fun sa H12 hsa e12 h12 => ?_
  have w12 := (w11.mono e12).put (gs := putF "starts" (.ref sa) F11) hp0
  refine q _ w12.e ⟨dx, ra, pa, sa, ys, ?_, w12.row, w12.rat, tup_upd (w11.mono e12).ins (e12 _ _ h11), tup_upd (w11.mono e12).ins h12⟩
  rw [w12.ins, ← hf11, ← hf10, ← hf9, ← hf8, ← hf7, ← hf6]
  rfl
end
end Ver
namespace Ver
open PySem PySem.Spec PyProof.Rows L2 Evl
theorem idx_old {L : Rw} {r q : Nat × Nat} (h : q ∈ L) : (L ++ [r]).idxOf q = L.idxOf q := by
  rw [List.idxOf_append, if_pos h]
theorem idx_new {L : Rw} {r : Nat × Nat} (h : r ∉ L) : (L ++ [r]).idxOf r = L.length := by
  rw [List.idxOf_append, if_neg h]
  simp
theorem s_retMake {σ : L2.St} {H : Hp} {D : Ends} {C : Addr} {sp : Sp} {dvs vs : List V} {E : XK} {tp : TA} (h : EvA tp σ H vs)
    (k : ∀ H1, Ex H H1 → ∀ x dx, H1 x = none → H1 dx = none → dx ≠ x → sp (.ref x :: (vs ++ dvs)) (upd (upd H1 dx (.own x)) x (.ins C dx [])) (fun v H2 => v = .non ∧ D.rt (.ref x) H2) E) : tRet (tMake C sp dvs E tp) D σ H := h H (Ex.refl H) _ k
section
variable {P : Program} {w : World} {K : PySem.W.Frag} {mg : Str → Option Value} {base : Heap} {C_Cut : Addr}
/-! ### cut_of -/
def spCut (C : Addr) : Sp := fun vs H Q _ => ∃ al v : List Nat, vs = [tx al, tx v] ∧ Alf al ∧ (∀ c ∈ v, c ∈ al) ∧ v.length ≤ 1000 ∧ ∀ p H2, H p = none → Ex H H2 → CutAt C H2 p al (cutW v).1 (cutW v).2 → Q (.ref p) H2
theorem has_cut (F : At K mg "cut_of" s_cut_of) (T : Top K mg C_Cut) (h1 : Has P w K mg base "check_alphabet" s_check_alphabet ["alphabet"] 2 spCkAl) (h2 : Has P w K mg base "check_text" s_check_text ["alphabet", "text"] 1 spCkTx)
    (h3 : HasI P w K mg base C_Cut ["self", "alphabet", "rows", "tail"] 5 (spInit C_Cut)) : Has P w K mg base "cut_of" s_cut_of ["alphabet", "text"] 7 (spCut C_Cut) := by
  obtain ⟨f, fd, F, m⟩ := F.ex
  obtain ⟨f1, fd1, _, G_check_alphabet, b_check_alphabet, m_check_alphabet, k_check_alphabet⟩ := h1
  obtain ⟨f2, fd2, _, G_check_text, b_check_text, m_check_text, k_check_text⟩ := h2
  obtain ⟨f3, fd3, G_Cut___init__, b_Cut___init__, mk_Cut⟩ := h3
  refine ⟨f, fd, F, F.ok S_cut_of (fun vs H Q E h => ?_) (fun cdv A outer s H vs Q E hr h => ?_), F.binds fun _ _ _ _ _ _ us hl => match us, hl with | [_, _], _ => rfl, m, F.kp⟩
  · obtain ⟨al, v, rfl, _⟩ := h
    rfl
  obtain ⟨al, v, rfl, hA, hv, hz, q⟩ := h
  refine ⟨_, (pss_cons
    (ps_expr (pe_call G_check_alphabet (hr.mono (by decide)) rfl m_check_alphabet k_check_alphabet b_check_alphabet .nil pass0 (pa_cons (pv 0) pa_nil)))
    (pss_cons
    (ps_expr (pe_call G_check_text (hr.mono (by decide)) rfl m_check_text k_check_text b_check_text .nil pass0 (pa_cons (pv 0) (pa_cons (pv 1) pa_nil))))
    (pss_cons
    (ps_set (i := 2) S_cut_of.nd rfl (Or.inl rfl) pe_dnewT)
    (pss_cons
    (ps_set (i := 3) S_cut_of.nd rfl (Or.inl rfl) (pe_lst pa_nil))
    (pss_cons
    (ps_set (i := 4) S_cut_of.nd rfl (Or.inl rfl) pe_int)
    (pss_cons
    (ps_for PassesOwn.never rfl (pi_str (pv 1)) (pg_name (i := 5) S_cut_of.nd rfl (Or.inl rfl)) (pss_cons
    (ps_set (i := 6) S_cut_of.nd rfl (Or.inl rfl) (pe_tup (pa_cons (pv 4) (pa_cons (pv 5) pa_nil))))
    (pss_one
    (ps_if (pt_cmp (pc_din (hu_of hr) (pv 6) (pv 2))) (pss_one
    (ps_set (i := 4) S_cut_of.nd rfl (Or.inl rfl) (pe_dget (hu_of hr) (pv 2) (pv 6) (fun _ _ => rfl)))) (pss_cons
    (ps_expr (pe_bm PySem.F.plainAttrs_list PySem.F.slot_list_append PySem.F.type_list_append mt_append (pv 3) (pa_cons (pv 6) pa_nil)))
    (pss_cons
    (ps_dput (hu_of hr) (pv 2) (pv 6) (pe_callB call_len_seq rfl T.z_len PySem.boot_len (pa_cons (pv 3) pa_nil)) rfl)
    (pss_one
    (ps_set (i := 4) S_cut_of.nd rfl (Or.inl rfl) pe_int))))))))
    (pss_one
    (ps_ret (pe_make mk_Cut G_Cut___init__ (hr.mono (by decide)) rfl T.c_Cut b_Cut___init__ .nil pass0 (pa_cons (pv 0) (pa_cons (pv 3) (pa_cons (pv 4) pa_nil)))))))))))), ?_⟩
  refine q_drop (ev_call (ea_cons (ev_var rfl) ea_nil) (sv_ckal hA)) fun H1 e1 => ?_
  refine q_drop (ev_call (ea_cons (ev_var rfl) (ea_cons (ev_var rfl) ea_nil)) (sv_cktx hv (by omega))) fun H2 e2 => ?_
  refine q_newT fun d H3 hd e3 h3 => ?_
  refine q_asgL (xs := []) (el_lst ea_nil (by decide)) fun l H4 hl e4 h4 => ?_
  refine q_asg ev_c fun H5 e5 => ?_
  have e02 := e1.trans e2
  have hd0 : H d = none := fresh_back e02 hd
  have hl0 : H l = none := fresh_back (e02.trans e3) hl
  have e05 := ((e02.trans e3).trans e4).trans e5
  refine q_forS (z := SX.S v) (ev_var rfl) (fun i σ' H' => (∃ u5 u6, σ' = [some (tx al), some (tx v), some (.ref d), some (.ref l), some (.int ((cutW (v.take i)).2 : Int)), u5, u6]) ∧ Ex H H' ∧ (∃ xs, H' l = some (.lst xs) ∧ RowsAt H' xs (cutW (v.take i)).1) ∧
    ∃ kvs, H' d = some (.dT kvs) ∧ DictAt kvs (cutW (v.take i)).1 (fun r => .int (((cutW (v.take i)).1.idxOf r : Int) + 1))) ?_ ?_ ?_
  · intro H6 e6
    exact ⟨⟨none, none, rfl⟩, e05.trans e6, ⟨[], e6 _ _ (e5 _ _ h4), .nil⟩, [], e6 _ _ (e5 _ _ (e4 _ _ h3)), .nil⟩
  · intro i c σ' H' hc p
    obtain ⟨⟨u5, u6, rfl⟩, e6, ⟨xs, h6, hR⟩, kvs, h7, dk⟩ := p
    have hc2 : v[i]? = some c := hc
    have hi := (List.getElem?_eq_some_iff.mp hc2).1
    have et : v.take (i + 1) = v.take i ++ [c] := by
      rw [List.take_add_one, hc2]
      rfl
    have ko := cut_ok (al := al) (v.take i) fun x hx => hv x (List.mem_of_mem_take hx)
    rw [et, cut_snoc]
    generalize cutW (v.take i) = st at *
    obtain ⟨rs, cur⟩ := st
    have few : rs.length ≤ (v.take i).length := ko.few
    rw [List.length_take] at few
    have hxl : xs.length = rs.length := hR.len
    refine q_asgU (xs := [.int (cur : Int), tx [c]]) (eu_tup (ea_cons (ev_var rfl) (ea_cons (ev_var rfl) ea_nil)) (by show 2 ≤ 100000; decide)) fun r H7 hr e7 h8 => ?_
    have nld : l ≠ d := ne_of h6 h7 (by intro z; cases z)
    refine s_if (et_din (o := valV kvs (kr (cur, c))) (ev_var rfl) (ev_var rfl) fun H8 e8 => DGet.t (k := kr (cur, c)) (e8 _ _ (e7 _ _ h7)) (e8 _ _ h8)) (fun hb H8 e8 => ?_) (fun hb H8 e8 => ?_)
    · have hm : (cur, c) ∈ rs := by
        refine Classical.byContradiction fun hn => ?_
        rw [dk.not _ hn] at hb
        cases hb
      have hval := dk.there _ hm
      refine s_asg (v := .int ((rs.idxOf (cur, c) : Int) + 1)) (ev_dget (ev_var rfl) (ev_var rfl) fun H9 e9 => ?_) fun H9 e9 => ?_
      · have g := DGet.t (k := kr (cur, c)) (e9 _ _ (e8 _ _ (e7 _ _ h7))) (e9 _ _ (e8 _ _ h8))
        rw [hval] at g
        exact g
      · have es : cutStep (rs, cur) c = (rs, rs.idxOf (cur, c) + 1) := if_pos hm
        rw [es]
        have e69 := (e7.trans e8).trans e9
        exact ⟨⟨_, _, rfl⟩, e6.trans e69, ⟨xs, e69 _ _ h6, hR.mono e69⟩, kvs, e69 _ _ h7, dk⟩
    · have hm : (cur, c) ∉ rs := fun hm => by
        rw [dk.there _ hm] at hb
        cases hb
      have es : cutStep (rs, cur) c = (rs ++ [(cur, c)], 0) := if_neg hm
      rw [es]
      have e68 := e7.trans e8
      refine q_app (e68 _ _ h6) (ev_var rfl) (ev_var rfl) (by omega) fun H9 e9 => ?_
      have e69 := e68.trans e9
      have nrl : r ≠ l := ne_of (e9 _ _ (e8 _ _ h8)) (e69 _ _ h6) (by intro z; cases z)
      have h8' : (L2.upd H9 l (.lst (xs ++ [.ref r]))) r = some (.tup [.int (cur : Int), tx [c]]) := by
        rw [upd_ne nrl]
        exact e9 _ _ (e8 _ _ h8)
      have h7' : (L2.upd H9 l (.lst (xs ++ [.ref r]))) d = some (.dT kvs) := by
        rw [upd_ne nld.symm]
        exact e69 _ _ h7
      have h6' : (L2.upd H9 l (.lst (xs ++ [.ref r]))) l = some (.lst (xs ++ [.ref r])) := upd_same
      have hR' : RowsAt (L2.upd H9 l (.lst (xs ++ [.ref r]))) (xs ++ [.ref r]) (rs ++ [(cur, c)]) := ((hR.mono e69).upd (e69 _ _ h6) (fun ys => by intro z; cases z)).snoc h8'
      have e6' : Ex H (L2.upd H9 l (.lst (xs ++ [.ref r]))) := (e6.trans e69).mut hl0
      generalize L2.upd H9 l (.lst (xs ++ [.ref r])) = G at *
      have ev : ((((xs ++ [V.ref r]).length : Nat) : Int)) = ((rs.length : Nat) : Int) + 1 := by
        rw [List.length_append, hxl]
        rfl
      refine q_dput (g := fun H10 => L2.upd H10 d (.dT (putK kvs (kr (cur, c)) (.int ((rs.length : Int) + 1))))) (ev_is (ev_cb (ea_cons (ev_var rfl) ea_nil) (rc_lenL (sq_of h6'))) (by rw [ev])) (ev_var rfl) (ev_var rfl) (fun H10 e10 => ?_) fun H10 e10 => ?_
      · exact DPut.t (k := kr (cur, c)) (e10 _ _ h7') (e10 _ _ h8') (sz_lt (by rw [dk.len]; show rs.length < 100000; omega))
      · refine s_asg ev_c fun H11 e11 => ⟨⟨_, _, rfl⟩, ((e6'.trans e10).mut hd0).trans e11, ⟨_, e11 _ _ (by rw [upd_ne nld]; exact e10 _ _ h6'), ((hR'.mono e10).upd (e10 _ _ h7') (fun ys => by intro z; cases z)).mono e11⟩, _, e11 _ _ upd_same, ?_⟩
        have g := dk.put (v' := fun r => V.int (((rs ++ [(cur, c)]).idxOf r : Int) + 1)) hm (fun q hq => by
          show V.int (((rs ++ [(cur, c)]).idxOf q : Int) + 1) = V.int ((rs.idxOf q : Int) + 1)
          rw [idx_old hq])
        have ei : (rs ++ [(cur, c)]).idxOf (cur, c) = rs.length := idx_new hm
        have g2 : DictAt (putK kvs (kr (cur, c)) (V.int (((rs ++ [(cur, c)]).idxOf (cur, c) : Int) + 1))) (rs ++ [(cur, c)]) (fun r => V.int (((rs ++ [(cur, c)]).idxOf r : Int) + 1)) := g
        rw [ei] at g2
        exact g2
  · intro σ' H' p
    obtain ⟨⟨u5, u6, rfl⟩, e6, ⟨xs, h6, hR⟩, kvs, h7, dk⟩ := p
    have ef : v.take (SX.S v).cps.size = v := by
      show v.take v.toArray.size = v
      simp
    rw [ef] at hR dk ⊢
    have ko := cut_ok (al := al) v hv
    generalize cutW v = st at *
    obtain ⟨rs, cur⟩ := st
    have few : rs.length ≤ v.length := ko.few
    have word : v = (pcs rs).flatten ++ (pcs rs).getD cur [] := ko.word
    have hfl := congrArg List.length word
    rw [List.length_append] at hfl
    refine s_retMake (ea_cons (ev_var rfl) (ea_cons (ev_var rfl) (ea_cons (ev_var rfl) ea_nil))) fun H7 e7 x dx hx hdx ne => ?_
    have en : Ex H7 (L2.upd (L2.upd H7 dx (.own x)) x (.ins C_Cut dx [])) := (Ex.new hdx).trans (Ex.new (by rw [upd_ne ne.symm]; exact hx))
    refine ⟨al, x, l, dx, cur, xs, rs, H7, rfl, en, hx, upd_same, .inl (e7 _ _ h6), (hR.mono e7).toS, hA, ko.ok, ko.low, by omega, by omega, fun H8 e8 hc => ⟨rfl, q x H8 (fresh_back (e6.trans e7) hx) ((e6.trans e7).trans e8) hc⟩⟩
end
end Ver
namespace Ver
open PySem PySem.Spec PyProof.Rows L2 Evl
section
variable {P : Program} {w : World} {K : PySem.W.Frag} {mg : Str → Option Value} {base : Heap} {C_Cut : Addr}
/-! ### _law_near_word -/
def spNw (K : PySem.W.Frag) : Sp := fun vs H Q _ => ∃ (al v : List Nat) (a : Addr) (r : List Int), vs = [tx al, tx v, .ref a] ∧ Alf al ∧ (∀ c ∈ v, c ∈ al) ∧ v.length ≤ 400 ∧ SqL K H a (r.map V.int) ∧ r.length = 14 ∧ ∀ u, Word al 400 u → RetV (tx u) H Q
theorem has_nw (F : At K mg "_law_near_word" s__law_near_word) (T : Top K mg C_Cut) (h1 : Has P w K mg base "_law_plain_word" s__law_plain_word ["signs", "row", "most"] 1 (spFw K)) : Has P w K mg base "_law_near_word" s__law_near_word ["signs", "word", "row"] 2 (spNw K) := by
  obtain ⟨f, fd, F, m⟩ := F.ex
  obtain ⟨f1, fd1, _, G__law_plain_word, b__law_plain_word, m__law_plain_word, k__law_plain_word⟩ := h1
  refine ⟨f, fd, F, F.ok S__law_near_word (fun vs H Q E h => ?_) (fun cdv A outer s H vs Q E hr h => ?_), F.binds fun _ _ _ _ _ _ us hl => match us, hl with | [_, _, _], _ => rfl, m, F.kp⟩
  · obtain ⟨al, v, a, r, rfl, _⟩ := h
    rfl
  obtain ⟨al, v, a, r, rfl, hA, hv, hz, hR, hl, q⟩ := h
  refine ⟨_, (pss_cons
    (ps_set (i := 3) S__law_near_word.nd rfl (Or.inl rfl) (pe_call G__law_plain_word (hr.mono (by decide)) rfl m__law_plain_word k__law_plain_word b__law_plain_word .nil pass0 (pa_cons (pv 0) (pa_cons (pe_slice sl_list (pv 2) (po_some pe_int) po_none) (pa_cons pe_int pa_nil)))))
    (pss_cons
    (ps_set (i := 4) S__law_near_word.nd rfl (Or.inl rfl) (pe_op op_mod (pe_callTy call_int1 rfl T.z_int (by decide +kernel) (pa_cons (pe_ix (r := rIxL K) ix_list (pv 2) pe_int (fun _ _ => rfl)) pa_nil)) (pe_op op_add (pe_callB call_len_str rfl T.z_len PySem.boot_len (pa_cons (pv 1) pa_nil)) pe_int)))
    (pss_cons
    (ps_if (pt_cmpR op_eq (pe_ix (r := rIxL K) ix_list (pv 2) pe_int (fun _ _ => rfl)) pe_int (nomark _)) (pss_one
    (ps_ret (pe_slice sl_str (pe_op op_add_str (pe_op op_add_str (pe_slice sl_str (pv 1) po_none (po_some (pv 4))) (pe_ix ix_str (pv 3) pe_int (fun _ _ => rfl))) (pe_slice sl_str (pv 1) (po_some (pv 4)) po_none)) po_none (po_some pe_int)))) pss_nil)
    (pss_cons
    (ps_if (pt_cmpR op_eq (pe_ix (r := rIxL K) ix_list (pv 2) pe_int (fun _ _ => rfl)) pe_int (nomark _)) (pss_one
    (ps_ret (pe_op op_add_str (pe_slice sl_str (pv 1) po_none (po_some (pv 4))) (pe_slice sl_str (pv 1) (po_some (pe_op op_add (pv 4) pe_int)) po_none)))) pss_nil)
    (pss_cons
    (ps_if (pt_cmpR op_eq (pe_ix (r := rIxL K) ix_list (pv 2) pe_int (fun _ _ => rfl)) pe_int (nomark _)) (pss_one
    (ps_ret (pe_slice sl_str (pe_op op_add_str (pe_op op_add_str (pe_slice sl_str (pv 1) po_none (po_some (pv 4))) (pe_ix ix_str (pv 3) pe_int (fun _ _ => rfl))) (pe_slice sl_str (pv 1) (po_some (pe_op op_add (pv 4) pe_int)) po_none)) po_none (po_some pe_int)))) pss_nil)
    (pss_cons
    (ps_if (pt_cmpR op_eq (pe_ix (r := rIxL K) ix_list (pv 2) pe_int (fun _ _ => rfl)) pe_int (nomark _)) (pss_one
    (ps_ret (pe_slice sl_str (pv 1) po_none (po_some (pv 4))))) pss_nil)
    (pss_one
    (ps_ret (pv 3))))))))), ?_⟩
  refine q_asg (ev_fw (r := r.drop 2) (n := 12) hA (ev_var rfl) (el_from (n := 2) rfl (ev_var rfl) hR) (fun _ _ => ev_c) (by rw [List.length_drop]; omega) (by decide)) fun H1 e1 => ?_
  have fo := fwL_over hA (r := r.drop 2) (n := 12)
  have fl := fwL_len (al := al) (r := r.drop 2) (n := 12)
  generalize fwL al (r.drop 2) 12 = fr at fo fl ⊢
  have g0 := get_ex (l := fr) (i := 0) (by omega)
  have o0 := over_at fo g0
  obtain ⟨n, hn, en⟩ := int_mod (x := at0 r 1) (n := v.length + 1) (by omega)
  have en : at0 r 1 % ((v.length : Int) + 1) = (n : Int) := en
  refine q_asg (v := .int (n : Int)) (ev_is (ev_mod (j := (v.length : Int) + 1) (by omega) (ev_int (ev_atI (ex_l e1 hR) (i := 1) (by omega) rfl (ev_var rfl) ev_c)) (ev_add (ev_lenS (by omega) (ev_var rfl)) ev_c)) (by rw [en])) fun H2 e2 => ?_
  have e12 := e1.trans e2
  have k1 := cutL_len (l := v) (lo := none) (hi := some (n : Int))
  have k2 := cutL_len (l := v) (lo := some (n : Int)) (hi := none)
  have k3 := cutL_len (l := v) (lo := some ((n + 1 : Nat) : Int)) (hi := none)
  have z0 : ∀ {σ : L2.St} {H1 : Hp}, Ex H H1 → σ[2]? = some (some (.ref a)) → Ev (tOp (rIxL K) (tVar 2) (tC (.int 0))) σ H1 (.int (at0 r 0)) := fun e h => ev_atI (i := 0) (ex_l e hR) (by omega) rfl (ev_var h) ev_c
  refine q_when (et_eqI (z0 e12 rfl) ev_c) (fun hb H3 e3 => ?_) (fun hb H3 e3 => ?_)
  · exact s_ret (ev_slS (hi := some ((400 : Nat) : Int)) (l := cutL v none (some (n : Int)) ++ [fr.getD 0 0] ++ cutL v (some (n : Int)) none) (by rw [List.length_append, List.length_append]; show _ + 1 + _ ≤ _; omega) (ev_catS (a := cutL v none (some (n : Int)) ++ [fr.getD 0 0]) (b := cutL v (some (n : Int)) none) (by rw [List.length_append]; show _ + 1 + _ ≤ _; omega) (ev_catS (b := [fr.getD 0 0]) (by show _ + 1 ≤ _; omega) (ev_slS (by omega) (ev_var rfl) eo_none (eo_some (i := (n : Int)) (ev_var rfl))) (ev_ixS (i := 0) (by omega) g0 (ev_var rfl) ev_c)) (ev_slS (by omega) (ev_var rfl) (eo_some (i := (n : Int)) (ev_var rfl)) eo_none)) eo_none (eo_some ev_c)) fun H4 e4 => q _ (Word.cut (over_app (over_app (over_cut hv) o0) (over_cut hv)) (Nat.le_refl _)) H4 ((e12.trans e3).trans e4)
  have e13 := e12.trans e3
  refine q_when (et_eqI (z0 e13 rfl) ev_c) (fun hb H4 e4 => ?_) (fun hb H4 e4 => ?_)
  · refine s_ret (ev_catS (a := cutL v none (some (n : Int))) (b := cutL v (some ((n + 1 : Nat) : Int)) none) (by omega) (ev_slS (by omega) (ev_var rfl) eo_none (eo_some (i := (n : Int)) (ev_var rfl))) (ev_slS (by omega) (ev_var rfl) (eo_some (i := ((n + 1 : Nat) : Int)) (ev_is (ev_add (ev_var rfl) ev_c) (by rw [Int.natCast_add]; rfl))) eo_none)) fun H5 e5 => q _ ⟨over_app (over_cut hv) (over_cut hv), ?_⟩ H5 ((e13.trans e4).trans e5)
    rw [List.length_append, cutL_to, cutL_from, List.length_take, List.length_drop]
    omega
  have e14 := e13.trans e4
  refine q_when (et_eqI (z0 e14 rfl) ev_c) (fun hb H5 e5 => ?_) (fun hb H5 e5 => ?_)
  · exact s_ret (ev_slS (hi := some ((400 : Nat) : Int)) (l := cutL v none (some (n : Int)) ++ [fr.getD 0 0] ++ cutL v (some ((n + 1 : Nat) : Int)) none) (by rw [List.length_append, List.length_append]; show _ + 1 + _ ≤ _; omega) (ev_catS (a := cutL v none (some (n : Int)) ++ [fr.getD 0 0]) (b := cutL v (some ((n + 1 : Nat) : Int)) none) (by rw [List.length_append]; show _ + 1 + _ ≤ _; omega) (ev_catS (b := [fr.getD 0 0]) (by show _ + 1 ≤ _; omega) (ev_slS (by omega) (ev_var rfl) eo_none (eo_some (i := (n : Int)) (ev_var rfl))) (ev_ixS (i := 0) (by omega) g0 (ev_var rfl) ev_c)) (ev_slS (by omega) (ev_var rfl) (eo_some (i := ((n + 1 : Nat) : Int)) (ev_is (ev_add (ev_var rfl) ev_c) (by rw [Int.natCast_add]; rfl))) eo_none)) eo_none (eo_some ev_c)) fun H6 e6 => q _ (Word.cut (over_app (over_app (over_cut hv) o0) (over_cut hv)) (Nat.le_refl _)) H6 ((e14.trans e5).trans e6)
  have e15 := e14.trans e5
  refine q_when (et_eqI (z0 e15 rfl) ev_c) (fun hb H6 e6 => ?_) (fun hb H6 e6 => ?_)
  · exact s_ret (ev_slS (by omega) (ev_var rfl) eo_none (eo_some (i := (n : Int)) (ev_var rfl))) fun H7 e7 => q _ ⟨over_cut hv, by omega⟩ H7 ((e15.trans e6).trans e7)
  exact s_ret (ev_var rfl) fun H7 e7 => q _ ⟨fo, by omega⟩ H7 ((e15.trans e6).trans e7)
/-! ### _law_other_signs -/
def spOs (K : PySem.W.Frag) : Sp := fun vs H Q _ => ∃ (al v : List Nat) (a : Addr) (r : List Int), vs = [tx al, tx v, .ref a] ∧ Alf al ∧ v.length ≤ 400 ∧ SqL K H a (r.map V.int) ∧ 7 = r.length ∧ (0 ≤ at0 r 0 ∧ at0 r 0 < 3) ∧ (∀ k, 1 ≤ k → k < 7 → 0 ≤ at0 r k ∧ at0 r k < 36) ∧ ∀ al2, Alf al2 → (∀ c ∈ al, c ∈ v → c ∈ al2) → RetV (tx al2) H Q
theorem has_os (F : At K mg "_law_other_signs" s__law_other_signs) (T : Top K mg C_Cut) : Has P w K mg base "_law_other_signs" s__law_other_signs ["signs", "word", "row"] 1 (spOs K) := by
  obtain ⟨f, fd, F, m⟩ := F.ex
  refine ⟨f, fd, F, F.ok S__law_other_signs (fun vs H Q E h => ?_) (fun cdv A outer s H vs Q E hr h => ?_), F.binds fun _ _ _ _ _ _ us hl => match us, hl with | [_, _, _], _ => rfl, m, F.kp⟩
  · obtain ⟨al, v, a, r, rfl, _⟩ := h
    rfl
  obtain ⟨al, v, a, r, rfl, hA, hz, hR, hl, b0, bs, q⟩ := h
  refine ⟨_, (pss_cons
    (ps_set (i := 3) S__law_other_signs.nd rfl (Or.inl rfl) pe_str)
    (pss_cons
    (ps_setLc (i := 4) (own := [("sign", 7)]) (g := gName 7) (tt := _) rfl S__law_other_signs.nd rfl (rfl) (sw_true rfl rfl rfl (by decide +kernel)) (pi_str (pv 0)) (blkOk_by (N := N__law_other_signs) (sc := defScope s__law_other_signs) (by decide +kernel)) (fun _ _ _ _ _ => pg_name (i := 7) S__law_other_signs.nd rfl (Or.inl rfl)) (fun _ _ _ _ _ => pts_one (pt_cmpR op_in_sign (pv 7) (pv 1) rfl)) (fun _ _ _ _ _ => (pv 7)))
    (pss_cons
    (ps_set (i := 5) S__law_other_signs.nd rfl (Or.inl rfl) (pe_callB (call_min2 rfl) rfl T.z_min (by decide +kernel) (pa_cons pe_int (pa_cons (pe_callB (call_max2 rfl) rfl T.z_max (by decide +kernel) (pa_cons pe_int (pa_cons (pe_op op_add (pe_callB call_len_seq rfl T.z_len PySem.boot_len (pa_cons (pv 4) pa_nil)) (pe_ix (r := rIxL K) ix_list (pv 2) pe_int (fun _ _ => rfl))) pa_nil))) pa_nil))))
    (pss_cons
    (ps_for PassesOwn.never rfl (pi_list (pe_slice sl_list (pv 2) (po_some pe_int) po_none)) (pg_name (i := 6) S__law_other_signs.nd rfl (Or.inl rfl)) (pss_one
    (ps_if (PW.pt (pw_and (pt_cmpR op_lt (pe_callB call_len_seq rfl T.z_len PySem.boot_len (pa_cons (pv 4) pa_nil)) (pv 5) (nomark _)) (pw_and1 (pt_cmpR op_notIn_seq (pe_ix ix_str (pv 3) (pv 6) (fun _ _ => rfl)) (pv 4) rfl)))) (pss_one
    (ps_expr (pe_bm PySem.F.plainAttrs_list PySem.F.slot_list_append PySem.F.type_list_append mt_append (pv 4) (pa_cons (pe_ix ix_str (pv 3) (pv 6) (fun _ _ => rfl)) pa_nil)))) pss_nil)))
    (pss_one
    (ps_ret (pe_join pe_str (pe_callB cr_sortedS rfl T.z_sorted (by decide +kernel) (pa_cons (pv 4) pa_nil))))))))), ?_⟩
  have h6 := hA.six
  refine q_asg (v := tx figs) (ev_is ev_c (by rw [figs_is])) fun H1 e1 => ?_
  refine q_asgL (el_lcSF (fun c => decide (c ∈ v)) (fun c => tx [c]) (ev_var (v := tx al) rfl) (by omega) (fun a => rfl) (fun i c H1 e hc => et_test (ev_op (ev_var rfl) (ev_var rfl) rv_inSign)) fun i c H1 e hc => ev_var rfl) fun l H2 hl2 e2 g2 => ?_
  have e12 := e1.trans e2
  have hl0 : H l = none := fresh_back e1 hl2
  have hfl := List.length_filter_le (fun c => decide (c ∈ v)) al
  obtain ⟨mo, hm1, hm6, em⟩ : ∃ mo : Nat, 1 ≤ mo ∧ mo ≤ 6 ∧ min 6 (max 1 (((al.filter fun c => decide (c ∈ v)).length : Int) + at0 r 0)) = (mo : Int) := ⟨(min 6 (max 1 (((al.filter fun c => decide (c ∈ v)).length : Int) + at0 r 0))).toNat, by omega, by omega, by omega⟩
  refine q_asg (v := .int (mo : Int)) (ev_is (ev_cb (ea_cons ev_c (ea_cons (ev_cb (ea_cons ev_c (ea_cons (ev_add (ev_is (ev_cb (ea_cons (ev_var rfl) ea_nil) (rc_lenL (sq_of g2))) (by rw [List.length_map])) (ev_atI (ex_l e12 hR) (i := 0) (by omega) rfl (ev_var rfl) ev_c)) ea_nil)) rc_max) ea_nil)) rc_min) (by rw [em])) fun H3 e3 => ?_
  have e13 := e12.trans e3
  have g3 := e3 _ _ g2
  have hr1 : EvL (tSl (rSlL K) (tVar 2) (tPart (tC (.int 1))) tNoPart) [some (tx al), some (tx v), some (.ref a), some (tx figs), some (.ref l), some (.int (mo : Int)), none, none] H3 ((r.drop 1).map V.int) := el_from (n := 1) rfl (ev_var rfl) (ex_l e13 hR)
  have rl : ((r.drop 1).map V.int).length = 6 := by rw [List.length_map, List.length_drop, ← hl]
  refine q_forNLn hr1 (fun p i σ' H' => ∃ (u6 : Option V) (cs : List Nat), σ' = [some (tx al), some (tx v), some (.ref a), some (tx figs), some (.ref l), some (.int (mo : Int)), u6, none] ∧ (p ≠ l ∧ H' p = some (.lst ((r.drop 1).map V.int))) ∧ Ex H H' ∧ H' l = some (.lst (cs.map fun c => tx [c])) ∧ cs.Nodup ∧ (∀ c ∈ cs, c ∈ figs) ∧ cs.length ≤ 6 ∧ (1 ≤ i → 1 ≤ cs.length) ∧ ∀ c ∈ al, c ∈ v → c ∈ cs) ?_ ?_ ?_ ?_
  · intro p H4 hp e4 g4
    exact ⟨none, al.filter fun c => decide (c ∈ v), rfl, ⟨fun z => (by rw [z, g3] at hp; cases hp), g4⟩, e13.trans e4, e4 _ _ g3, hA.nd.filter _, fun c hc => alf_figs_in hA c (List.mem_filter.mp hc).1, by omega, fun h => absurd h (by omega), fun c h1 h2 => List.mem_filter.mpr ⟨h1, decide_eq_true h2⟩⟩
  · intro p i σ' H' _ z
    obtain ⟨u6, cs, rfl, ⟨pl, gp⟩, _⟩ := z
    exact sq_of gp
  · intro p i x σ' H' hx z
    obtain ⟨u6, cs, rfl, ⟨pl, gp⟩, e4, g4, nd, sub, z6, z1, kp⟩ := z
    rw [List.getElem?_map] at hx
    obtain ⟨y, hy, rfl⟩ := Option.map_eq_some_iff.mp hx
    rw [List.getElem?_drop] at hy
    have hi7 := (List.getElem?_eq_some_iff.mp hy).1
    have ey : at0 r (1 + i) = y := by
      unfold at0
      rw [List.getD_eq_getElem?_getD, hy]
      rfl
    have bb := bs (1 + i) (by omega) (by omega)
    obtain ⟨k, hk, ek⟩ : ∃ k : Nat, k < 36 ∧ y = (k : Int) := ⟨y.toNat, by omega, by omega⟩
    subst ek
    have hf := figs_at hk
    have lenT : Ev (tCB (fun vs H Q => ∃ p ys, vs = [V.ref p] ∧ (SqL K H p ys ∨ SqT K H p ys) ∧ Q (V.int ys.length) H) (tCons (tVar 4) tNil)) [some (tx al), some (tx v), some (.ref a), some (tx figs), some (.ref l), some (.int (mo : Int)), some (.int (k : Int)), none] H' (.int (cs.length : Int)) := ev_is (ev_cb (ea_cons (ev_var rfl) ea_nil) (rc_lenL (sq_of g4))) (by rw [List.length_map])
    refine s_when (et_and (et_lt lenT (ev_var rfl)) fun _ => et_test (ev_op (ev_ixS (i := k) (by decide) hf (ev_var rfl) (ev_var rfl)) (ev_var rfl) (rv_niL (sq_of g4) rfl (flat_ones cs)))) (fun hb H5 e5 => ?_) (fun hb H5 e5 => ?_)
    · rw [Bool.and_eq_true, inV_one] at hb
      have h1 := of_decide_eq_true hb.1
      have h2 := hb.2
      rw [Bool.not_eq_true'] at h2
      have h2 := of_decide_eq_false h2
      refine s_app (e5 _ _ g4) (ev_var rfl) (ev_ixS (i := k) (by decide) hf (ev_var rfl) (ev_var rfl)) (by rw [List.length_map]; omega) fun H6 e6 => ⟨_, cs ++ [figs.getD k 0], rfl, ⟨pl, by rw [upd_ne pl]; exact e6 _ _ (e5 _ _ gp)⟩, ((e4.trans e5).trans e6).mut hl0, ?_, List.nodup_append.mpr ⟨nd, List.pairwise_singleton _ _, fun a ha b hb e => h2 (by rw [List.mem_singleton.mp hb] at e; exact e ▸ ha)⟩, fun c hc => ?_, by rw [List.length_append]; show _ + 1 ≤ 6; omega, fun _ => by rw [List.length_append]; show 1 ≤ _ + 1; omega, fun c h1 h2 => List.mem_append_left _ (kp c h1 h2)⟩
      · rw [upd_same, List.map_append]
        rfl
      · rcases List.mem_append.mp hc with hc | hc
        · exact sub c hc
        · rw [List.mem_singleton.mp hc]
          exact figs_mem hk
    · refine ⟨_, cs, rfl, ⟨pl, e5 _ _ gp⟩, e4.trans e5, e5 _ _ g4, nd, sub, z6, fun _ => ?_, kp⟩
      rw [Bool.and_eq_false_iff, inV_one] at hb
      rcases hb with hb | hb
      · have := of_decide_eq_false hb
        omega
      · rw [Bool.not_eq_false'] at hb
        have := List.length_pos_of_mem (of_decide_eq_true hb)
        omega
  · intro p0 σ' H' z
    obtain ⟨u6, cs, rfl, ⟨pl, gp⟩, e4, g4, nd, sub, z6, z1, kp⟩ := z
    have z1 := z1 (by rw [rl]; decide)
    have hms : (cs.map fun c => tx [c]) = (cs.map fun c => SX.S [c]).map V.str := by
      rw [List.map_map]
      rfl
    refine s_retJoinX ⟨_, rfl, l, cs.map (fun c => SX.S [c]), rfl, sq_of (by rw [← hms]; exact g4), by rw [List.length_map]; omega, fun ys p hp hs hpn => ?_⟩
    rw [mt_is]
    obtain ⟨ds, rfl, hdp, hda⟩ := sorted_signs nd hp hs
    have hdl := hdp.length_eq
    have hD : Alf ds := ⟨hda, by omega, by omega, fun c hc => figs_let c (sub c (hdp.mem_iff.mp hc))⟩
    have ej : (ds.map fun c => SX.S [c]) = (ds.map fun c => [c]).map SX.S := by
      rw [List.map_map]
      rfl
    refine join_ok (ps := ds.map fun c => [c]) (K := K) (.inl (sq_of (by rw [map_tx, ← ej]; exact upd_same))) (by rw [flat_sing]; omega) ?_
    rw [flat_sing]
    exact q ds hD (fun c h1 h2 => hdp.mem_iff.mpr (kp c h1 h2)) _ (e4.trans (Ex.new hpn))
/-! ### _law_says -/
def spSays : Sp := fun vs H Q _ => ∃ a b : Bool, vs = [.bl a, .bl b] ∧ RetV (.bl (decide (a = b))) H Q
theorem has_says (F : At K mg "_law_says" s__law_says) (T : Top K mg C_Cut) : Has P w K mg base "_law_says" s__law_says ["answer", "due"] 1 spSays := by
  obtain ⟨f, fd, F, m⟩ := F.ex
  refine ⟨f, fd, F, F.ok S__law_says (fun vs H Q E h => ?_) (fun cdv A outer s H vs Q E hr h => ?_), F.binds fun _ _ _ _ _ _ us hl => match us, hl with | [_, _], _ => rfl, m, F.kp⟩
  · obtain ⟨a, b, rfl, _⟩ := h
    rfl
  obtain ⟨a, b, rfl, q⟩ := h
  refine ⟨_, (pss_cons
    (ps_if (pt_val (pv 1)) (pss_one
    (ps_ret (pe_cmpR op_isBl (pv 0) pe_bl (nomark _)))) pss_nil)
    (pss_one
    (ps_ret (pe_cmpR op_isBl (pv 0) pe_bl (nomark _))))), ?_⟩
  have isb : ∀ {σ : L2.St} {H1 : Hp} (d : Bool), σ[0]? = some (some (.bl a)) → Ev (tOp rIsB (tVar 0) (tC (.bl d))) σ H1 (.bl (decide (a = d))) := fun d h => ev_op (ev_var h) ev_c fun H1 _ Q q => ⟨a, d, rfl, rfl, q H1 (Ex.refl H1)⟩
  refine q_when (et_B (b := b) (ev_var rfl)) (fun hb H1 e1 => ?_) (fun hb H1 e1 => ?_)
  · rw [hb] at q
    exact s_ret (isb true rfl) fun H2 e2 => q H2 (e1.trans e2)
  · rw [hb] at q
    exact s_ret (isb false rfl) fun H2 e2 => q H2 (e1.trans e2)
theorem sv_says {a b : Bool} {H : Hp} : SpV spSays ([V.bl a, V.bl b] ++ []) H (.bl (decide (a = b))) := fun _ _ _ q _ => ⟨a, b, rfl, q⟩
end
end Ver
namespace Ver
open PySem PySem.Spec PyProof.Rows L2 Evl
theorem fs_alphabet {al : List Nat} {ra pa sa : Addr} {t m : Int} {tt : List Nat} : (cutFs al ra t pa m tt sa).lookup ("alphabet" : Str) = some (tx al) := by
  unfold cutFs
  rw [lookup_putF, if_neg (by decide +kernel), lookup_putF, if_neg (by decide +kernel), lookup_putF, if_neg (by decide +kernel), lookup_putF, if_neg (by decide +kernel), lookup_putF, if_neg (by decide +kernel), lookup_putF, if_neg (by decide +kernel), lookup_putF, if_pos rfl]
theorem fs_pieces {al : List Nat} {ra pa sa : Addr} {t m : Int} {tt : List Nat} : (cutFs al ra t pa m tt sa).lookup ("pieces" : Str) = some (.ref pa) := by
  unfold cutFs
  rw [lookup_putF, if_neg (by decide +kernel), lookup_putF, if_neg (by decide +kernel), lookup_putF, if_neg (by decide +kernel), lookup_putF, if_pos rfl]
theorem fs_text {al : List Nat} {ra pa sa : Addr} {t m : Int} {tt : List Nat} : (cutFs al ra t pa m tt sa).lookup ("text" : Str) = some (tx tt) := by
  unfold cutFs
  rw [lookup_putF, if_neg (by decide +kernel), lookup_putF, if_pos rfl]
theorem fs_starts {al : List Nat} {ra pa sa : Addr} {t m : Int} {tt : List Nat} : (cutFs al ra t pa m tt sa).lookup ("starts" : Str) = some (.ref sa) := by
  unfold cutFs
  rw [lookup_putF, if_pos rfl]
theorem rc_isiT {K : PySem.W.Frag} {p : Addr} {xs : List V} {H : Hp} (h : H p = some (.tup xs)) : RC (rIsi K) [.ref p, .ty "tuple"] H (.bl true) := fun H1 e _ q =>
  ⟨.ref p, .ty "tuple", _, _, true, rfl, .ty "tuple", .base (.tup (e _ _ h)), kit_ty (a := "tuple") (by decide +kernel), q H1 (Ex.refl H1)⟩
section
variable {P : Program} {w : World} {K : PySem.W.Frag} {mg : Str → Option Value} {base : Heap} {C_Cut : Addr}
/-! ### _law_kinds -/
/-- what the object of the class shows -/
def spKinds (C : Addr) : Sp := fun vs H Q _ => ∃ (p : Addr) (al : List Nat) (rs : Rw) (t : Nat), vs = [.ref p] ∧ CutAt C H p al rs t ∧ RetV (.bl true) H Q
theorem has_kinds (F : At K mg "_law_kinds" s__law_kinds) (T : Top K mg C_Cut) (h1 : Has P w K mg base "_law_whole" s__law_whole ["value"] 1 spWhole) : Has P w K mg base "_law_kinds" s__law_kinds ["told"] 2 (spKinds C_Cut) := by
  obtain ⟨f, fd, F, m⟩ := F.ex
  obtain ⟨f1, fd1, _, G__law_whole, b__law_whole, m__law_whole, k__law_whole⟩ := h1
  refine ⟨f, fd, F, F.ok S__law_kinds (fun vs H Q E h => ?_) (fun cdv A outer s H vs Q E hr h => ?_), F.binds fun _ _ _ _ _ _ us hl => match us, hl with | [_], _ => rfl, m, F.kp⟩
  · obtain ⟨p, al, rs, t, rfl, _⟩ := h
    rfl
  obtain ⟨p, al, rs, t, rfl, hC, q⟩ := h
  obtain ⟨dx, ra, pa, sa, xs, k1, k2, k3, k4, k5⟩ := hC.ex
  have cl := T.cl_Cut
  refine ⟨_, (pss_cons
    (ps_if (PW.pt (pw_or (pt_not (pt_val (pe_callB call_isi rfl T.z_isinstance (by decide +kernel) (pa_cons (pe_fld (pv 0) rfl) (pa_cons (pe_bltn (v := .ty "tuple") rfl T.z_tuple (by decide +kernel) rfl) pa_nil))))) (pw_or (pt_not (pt_val (pe_callB call_isi rfl T.z_isinstance (by decide +kernel) (pa_cons (pe_fld (pv 0) rfl) (pa_cons (pe_bltn (v := .ty "tuple") rfl T.z_tuple (by decide +kernel) rfl) pa_nil))))) (pw_or1 (pt_not (pt_val (pe_callB call_isi rfl T.z_isinstance (by decide +kernel) (pa_cons (pe_fld (pv 0) rfl) (pa_cons (pe_bltn (v := .ty "tuple") rfl T.z_tuple (by decide +kernel) rfl) pa_nil))))))))) (pss_one
    (ps_ret pe_bl)) pss_nil)
    (pss_cons
    (ps_for PassesOwn.never rfl (pi_tup (pe_fld (pv 0) rfl)) (pg_name (i := 1) S__law_kinds.nd rfl (Or.inl rfl)) (pss_one
    (ps_if (PW.pt (pw_or (pt_not (pt_val (pe_callB call_isi rfl T.z_isinstance (by decide +kernel) (pa_cons (pv 1) (pa_cons (pe_bltn (v := .ty "tuple") rfl T.z_tuple (by decide +kernel) rfl) pa_nil))))) (pw_or (pt_cmpR op_ne (pe_callB call_len_seq rfl T.z_len PySem.boot_len (pa_cons (pv 1) pa_nil)) pe_int (nomark _)) (pw_or (pt_not (pt_val (pe_call G__law_whole (hr.mono (by decide)) rfl m__law_whole k__law_whole b__law_whole .nil pass0 (pa_cons (pe_ix (r := rIxT K) ix_tup (pv 1) pe_int (fun _ _ => rfl)) pa_nil)))) (pw_or1 (pt_not (pt_val (pe_callB call_isi rfl T.z_isinstance (by decide +kernel) (pa_cons (pe_ix (r := rIxT K) ix_tup (pv 1) pe_int (fun _ _ => rfl)) (pa_cons (pe_bltn (v := .ty "str") rfl T.z_str (by decide +kernel) rfl) pa_nil)))))))))) (pss_one
    (ps_ret pe_bl)) pss_nil)))
    (pss_cons
    (ps_for PassesOwn.never rfl (pi_tup (pe_fld (pv 0) rfl)) (pg_name (i := 2) S__law_kinds.nd rfl (Or.inl rfl)) (pss_one
    (ps_if (pt_not (pt_val (pe_callB call_isi rfl T.z_isinstance (by decide +kernel) (pa_cons (pv 2) (pa_cons (pe_bltn (v := .ty "str") rfl T.z_str (by decide +kernel) rfl) pa_nil))))) (pss_one
    (ps_ret pe_bl)) pss_nil)))
    (pss_cons
    (ps_for PassesOwn.never rfl (pi_tup (pe_fld (pv 0) rfl)) (pg_name (i := 3) S__law_kinds.nd rfl (Or.inl rfl)) (pss_one
    (ps_if (pt_not (pt_val (pe_call G__law_whole (hr.mono (by decide)) rfl m__law_whole k__law_whole b__law_whole .nil pass0 (pa_cons (pv 3) pa_nil)))) (pss_one
    (ps_ret pe_bl)) pss_nil)))
    (pss_one
    (ps_ret (pe_and (pe_callB call_isi rfl T.z_isinstance (by decide +kernel) (pa_cons (pe_fld (pv 0) rfl) (pa_cons (pe_bltn (v := .ty "str") rfl T.z_str (by decide +kernel) rfl) pa_nil))) (pe_and (pe_callB call_isi rfl T.z_isinstance (by decide +kernel) (pa_cons (pe_fld (pv 0) rfl) (pa_cons (pe_bltn (v := .ty "str") rfl T.z_str (by decide +kernel) rfl) pa_nil))) (pe_and (pe_call G__law_whole (hr.mono (by decide)) rfl m__law_whole k__law_whole b__law_whole .nil pass0 (pa_cons (pe_fld (pv 0) rfl) pa_nil)) (pe_one (pe_call G__law_whole (hr.mono (by decide)) rfl m__law_whole k__law_whole b__law_whole .nil pass0 (pa_cons (pe_fld (pv 0) rfl) pa_nil)))))))))))), ?_⟩
  have isT : ∀ {σ : L2.St} {H1 : Hp} {te : TE} {a : Addr} {zs : List V}, Ev te σ H1 (.ref a) → H1 a = some (.tup zs) → EvT (tNot (tB (tCB (rIsi K) (tCons te (tCons (tC (.ty "tuple")) tNil))))) σ H1 false := fun h g => et_is (et_not (et_B (ev_cb (ea_cons h (ea_cons ev_c ea_nil)) (rc_isiT g)))) rfl
  have isS : ∀ {σ : L2.St} {H1 : Hp} {te : TE} {s : List Nat}, Ev te σ H1 (tx s) → EvT (tNot (tB (tCB (rIsi K) (tCons te (tCons (tC (.ty "str")) tNil))))) σ H1 false := fun h => et_is (et_not (et_B (ev_cb (ea_cons h (ea_cons ev_c ea_nil)) (rc_isiS (b := true) (by decide +kernel))))) rfl
  have isW : ∀ {σ : L2.St} {H1 : Hp} {te : TE} {n : Int} {E : XK}, Ev te σ H1 (.int n) → EvT (tNot (tB (tCall spWhole [] E (tCons te tNil)))) σ H1 false := fun h => et_is (et_not (et_B (ev_call (ea_cons h ea_nil) sv_whole))) rfl
  refine q_skip (et_is (et_or (isT (ev_fld (ev_var rfl) k1 cl T.n_Cut_rows fs_rows) k2) fun _ => et_or (isT (ev_fld (ev_var rfl) k1 cl T.n_Cut_pieces fs_pieces) k4) fun _ => isT (ev_fld (ev_var rfl) k1 cl T.n_Cut_starts fs_starts) k5) rfl) fun H1 e1 => ?_
  refine q_forT (ev_fld (ev_var rfl) (e1 _ _ k1) cl T.n_Cut_rows fs_rows) (st_of (e1 _ _ k2)) (fun i σ' H' => Ex H H' ∧ ∃ u, σ' = [some (.ref p), u, none, none]) (fun H2 e2 => ⟨e1.trans e2, none, rfl⟩) (fun i σ' H' _ z => st_of (z.1 _ _ k2)) (fun i x σ' H' hx z => ?_) fun σ' H' z => ?_
  · obtain ⟨e2, u, rfl⟩ := z
    obtain ⟨hlt, r, rfl, hr⟩ := k3.get hx
    have hr := e2 _ _ hr
    refine s_when (b := false) (et_is (et_or (isT (ev_var rfl) hr) fun _ => et_or (et_is (et_neI (ev_is (ev_cb (ea_cons (ev_var rfl) ea_nil) (rc_lenT (st_of hr))) rfl) (ev_c (v := V.int 2))) rfl) fun _ => et_or (isW (ev_op (ev_var rfl) ev_c (rv_ixT (st_of hr) (atI_nat (j := 0) rfl)))) fun _ => isS (ev_op (ev_var rfl) ev_c (rv_ixT (st_of hr) (atI_nat (j := 1) rfl)))) rfl) (fun z => by cases z) fun _ H3 e3 => ⟨e2.trans e3, _, rfl⟩
  obtain ⟨e2, u, rfl⟩ := z
  refine q_forT (ev_fld (ev_var rfl) (e2 _ _ k1) cl T.n_Cut_pieces fs_pieces) (st_of (e2 _ _ k4)) (fun i σ' H' => Ex H H' ∧ ∃ u2, σ' = [some (.ref p), u, u2, none]) (fun H3 e3 => ⟨e2.trans e3, none, rfl⟩) (fun i σ' H' _ z => st_of (z.1 _ _ k4)) (fun i x σ' H' hx z => ?_) fun σ' H' z => ?_
  · obtain ⟨e3, u2, rfl⟩ := z
    rw [List.getElem?_map] at hx
    obtain ⟨y, hy, rfl⟩ := Option.map_eq_some_iff.mp hx
    exact s_when (b := false) (isS (ev_var rfl)) (fun z => by cases z) fun _ H4 e4 => ⟨e3.trans e4, _, rfl⟩
  obtain ⟨e3, u2, rfl⟩ := z
  refine q_forT (ev_fld (ev_var rfl) (e3 _ _ k1) cl T.n_Cut_starts fs_starts) (st_of (e3 _ _ k5)) (fun i σ' H' => Ex H H' ∧ ∃ u3, σ' = [some (.ref p), u, u2, u3]) (fun H4 e4 => ⟨e3.trans e4, none, rfl⟩) (fun i σ' H' _ z => st_of (z.1 _ _ k5)) (fun i x σ' H' hx z => ?_) fun σ' H' z => ?_
  · obtain ⟨e4, u3, rfl⟩ := z
    rw [List.getElem?_map] at hx
    obtain ⟨y, hy, rfl⟩ := Option.map_eq_some_iff.mp hx
    exact s_when (b := false) (isW (ev_var rfl)) (fun z => by cases z) fun _ H5 e5 => ⟨e4.trans e5, _, rfl⟩
  obtain ⟨e4, u3, rfl⟩ := z
  have g1 := e4 _ _ k1
  exact s_ret (ev_is (ev_andV (b := true) (ev_cb (ea_cons (ev_fld (ev_var rfl) g1 cl T.n_Cut_alphabet fs_alphabet) (ea_cons ev_c ea_nil)) (rc_isiS (b := true) (by decide +kernel))) fun _ => ev_andV (b := true) (ev_cb (ea_cons (ev_fld (ev_var rfl) g1 cl T.n_Cut_text fs_text) (ea_cons ev_c ea_nil)) (rc_isiS (b := true) (by decide +kernel))) fun _ => ev_andV (b := true) (ev_call (ea_cons (ev_fld (ev_var rfl) g1 cl T.n_Cut_tail fs_tail) ea_nil) sv_whole) fun _ => ev_call (ea_cons (ev_fld (ev_var rfl) g1 cl T.n_Cut_many fs_many) ea_nil) sv_whole) rfl) fun H5 e5 => q H5 (e4.trans e5)
theorem sv_kinds {p : Addr} {al : List Nat} {rs : Rw} {t : Nat} {H : Hp} (h : CutAt C_Cut H p al rs t) : SpV (spKinds C_Cut) ([.ref p] ++ []) H (.bl true) := fun _ e _ q _ => ⟨p, al, rs, t, rfl, h.mono e, q⟩
end
end Ver
namespace Ver
open PySem PySem.Spec PyProof.Rows L2 Evl
/-! ### the law's own cut -/
structure DictS (kvs : List (Key × V)) (ps : List (List Nat)) : Prop where
  len : kvs.length = ps.length
  there : ∀ s ∈ ps, valV kvs (Sum.inr (SX.S s)) = some (.int (ps.idxOf s : Int))
  not : ∀ s, s ∉ ps → valV kvs (Sum.inr (SX.S s)) = none
theorem DictS.put {kvs : List (Key × V)} {ps : List (List Nat)} {s : List Nat} (h : DictS kvs ps) (hs : s ∉ ps) : DictS (putK kvs (Sum.inr (SX.S s)) (.int (ps.length : Int))) (ps ++ [s]) := by
  refine ⟨?_, fun q hq => ?_, fun q hq => ?_⟩
  · rw [putK_new _ (h.not s hs), List.length_append, List.length_append, h.len]
    rfl
  · rw [valV_put]
    by_cases c : q = s
    · rw [c, if_pos rfl, List.idxOf_append, if_neg hs]
      simp
    · rw [if_neg fun e => c (SX.S_inj (Sum.inr.inj e))]
      rcases List.mem_append.mp hq with hq | hq
      · rw [h.there q hq, List.idxOf_append, if_pos hq]
      · exact absurd (List.mem_singleton.mp hq) c
  · rw [valV_put, if_neg fun e => hq (by rw [SX.S_inj (Sum.inr.inj e)]; exact List.mem_append_right _ (List.mem_singleton.mpr rfl))]
    exact h.not q fun hm => hq (List.mem_append_left _ hm)
structure LCut (H : Hp) (p : Addr) (v : List Nat) : Prop where
  ex : ∃ (ra pa : Addr) (xs : List V), H p = some (.lst [.ref ra, .int ((cutW v).2 : Int), .ref pa]) ∧ H ra = some (.tup xs) ∧ RowsAt H xs (cutW v).1 ∧ H pa = some (.lst ((pcs (cutW v).1).map tx))
theorem LCut.mono {H H' : Hp} {p : Addr} {v : List Nat} (h : LCut H p v) (e : Ex H H') : LCut H' p v := by
  obtain ⟨ra, pa, xs, h1, h2, h3, h4⟩ := h.ex
  exact ⟨ra, pa, xs, e _ _ h1, e _ _ h2, h3.mono e, e _ _ h4⟩
section
variable {P : Program} {w : World} {K : PySem.W.Frag} {mg : Str → Option Value} {base : Heap} {C_Cut : Addr}
section
variable {σ : L2.St} {H : Hp} {D : Ends} {t1 t2 t3 : TE}
theorem s_retLst3 {xs : List V} {y z : V} (h1 : EvU t1 σ H xs) (h2 : ∀ H1, Ex H H1 → Ev t2 σ H1 y) (h3 : ∀ H1, Ex H H1 → Ev t3 σ H1 z) (k : ∀ r p H1, H p = none → Ex H H1 → H1 r = some (.tup xs) → H1 p = some (.lst [.ref r, y, z]) → D.rt (.ref p) H1) :
    tRet (tLst (tCons t1 (tCons t2 (tCons t3 tNil)))) D σ H := h1 H (Ex.refl H) _ fun r H1 hr e1 g1 => h2 H1 e1 H1 (Ex.refl H1) _ fun H2 e2 => h3 H2 (e1.trans e2) H2 (Ex.refl H2) _ fun H3 e3 =>
  ⟨by show 3 ≤ sizeLine; decide, fun p hp => k r p _ (fresh_back ((e1.trans e2).trans e3) hp) (((e1.trans e2).trans e3).trans (Ex.new hp)) (Ex.new hp _ _ (e3 _ _ (e2 _ _ g1))) upd_same⟩
end
def spLc : Sp := fun vs H Q _ => ∃ al v : List Nat, vs = [tx v] ∧ (∀ c ∈ v, c ∈ al) ∧ v.length ≤ 1000 ∧ ∀ p H2, H p = none → Ex H H2 → LCut H2 p v → Q (.ref p) H2
theorem has_lc (F : At K mg "_law_cut" s__law_cut) (T : Top K mg C_Cut) : Has P w K mg base "_law_cut" s__law_cut ["word"] 1 spLc := by
  obtain ⟨f, fd, F, m⟩ := F.ex
  refine ⟨f, fd, F, F.ok S__law_cut (fun vs H Q E h => ?_) (fun cdv A outer s H vs Q E hr h => ?_), F.binds fun _ _ _ _ _ _ us hl => match us, hl with | [_], _ => rfl, m, F.kp⟩
  · obtain ⟨al, v, rfl, _⟩ := h
    rfl
  obtain ⟨al, v, rfl, hv, hz, q⟩ := h
  refine ⟨_, (pss_cons
    (ps_set (i := 1) S__law_cut.nd rfl (Or.inl rfl) (pe_lst (pa_cons pe_str pa_nil)))
    (pss_cons
    (ps_set (i := 2) S__law_cut.nd rfl (Or.inl rfl) (pe_disp (pps_cons pe_str pe_int pps_nil) (by rfl) (by rfl) (fun z => by cases z) (by decide)))
    (pss_cons
    (ps_set (i := 3) S__law_cut.nd rfl (Or.inl rfl) (pe_lst pa_nil))
    (pss_cons
    (ps_set (i := 4) S__law_cut.nd rfl (Or.inl rfl) pe_str)
    (pss_cons
    (ps_for PassesOwn.never rfl (pi_str (pv 0)) (pg_name (i := 5) S__law_cut.nd rfl (Or.inl rfl)) (pss_one
    (ps_if (pt_cmp (pc_din (hu_of hr) (pe_op op_add_str (pv 4) (pv 5)) (pv 2))) (pss_one
    (ps_set (i := 4) S__law_cut.nd rfl (Or.inl rfl) (pe_op op_add_str (pv 4) (pv 5)))) (pss_cons
    (ps_expr (pe_bm PySem.F.plainAttrs_list PySem.F.slot_list_append PySem.F.type_list_append mt_append (pv 3) (pa_cons (pe_tup (pa_cons (pe_dget (hu_of hr) (pv 2) (pv 4) (fun _ _ => rfl)) (pa_cons (pv 5) pa_nil))) pa_nil)))
    (pss_cons
    (ps_dput (hu_of hr) (pv 2) (pe_op op_add_str (pv 4) (pv 5)) (pe_callB call_len_seq rfl T.z_len PySem.boot_len (pa_cons (pv 1) pa_nil)) rfl)
    (pss_cons
    (ps_expr (pe_bm PySem.F.plainAttrs_list PySem.F.slot_list_append PySem.F.type_list_append mt_append (pv 1) (pa_cons (pe_op op_add_str (pv 4) (pv 5)) pa_nil)))
    (pss_one
    (ps_set (i := 4) S__law_cut.nd rfl (Or.inl rfl) pe_str))))))))
    (pss_one
    (ps_ret (pe_lst (pa_cons (pe_callTy call_tuple_of rfl T.z_tuple (by decide +kernel) (pa_cons (pv 3) pa_nil)) (pa_cons (pe_dget (hu_of hr) (pv 2) (pv 4) (fun _ _ => rfl)) (pa_cons (pv 1) pa_nil))))))))))), ?_⟩
  refine q_asgL (xs := [[]].map tx) (el_lst (ea_cons (ev_is ev_c (by rw [mt_is])) ea_nil) (by show 1 ≤ 100000; decide)) fun l H1 hl e1 g1 => ?_
  refine q_asgX fun d hd => ?_
  have g0 : (L2.upd H1 d (.dK [])) d = some (.dK []) := upd_same
  refine ⟨g0, [(Sum.inr (SX.S []), V.int 0)], by rw [← mt_is]; rfl, by decide, ?_⟩
  have ed : Ex H1 (L2.upd (L2.upd H1 d (.dK [])) d (.dK (mergeK [] [(Sum.inr (SX.S []), V.int 0)]))) := (Ex.refl H1).mut hd |>.mut hd
  have gd : (L2.upd (L2.upd H1 d (.dK [])) d (.dK (mergeK [] [(Sum.inr (SX.S []), V.int 0)]))) d = some (.dK [(Sum.inr (SX.S []), V.int 0)]) := by
    rw [upd_same]
    rfl
  generalize L2.upd (L2.upd H1 d (.dK [])) d (.dK (mergeK [] [(Sum.inr (SX.S []), V.int 0)])) = H2 at ed gd ⊢
  refine q_asgL (xs := []) (el_lst ea_nil (by decide)) fun rl H3 hrl e3 g3 => ?_
  refine q_asg (v := tx []) (ev_is ev_c (by rw [mt_is])) fun H4 e4 => ?_
  have e02 := e1.trans ed
  have hl0 : H l = none := hl
  have hd0 : H d = none := fresh_back e1 hd
  have hr0 : H rl = none := fresh_back e02 hrl
  have e04 := (e02.trans e3).trans e4
  refine q_forS (z := SX.S v) (ev_var rfl) (fun i σ' H' => (∃ u5, σ' = [some (tx v), some (.ref l), some (.ref d), some (.ref rl), some (tx ((pcs (cutW (v.take i)).1).getD (cutW (v.take i)).2 [])), u5]) ∧ Ex H H' ∧
    H' l = some (.lst ((pcs (cutW (v.take i)).1).map tx)) ∧ (∃ kvs, H' d = some (.dK kvs) ∧ DictS kvs (pcs (cutW (v.take i)).1)) ∧ ∃ xs, H' rl = some (.lst xs) ∧ RowsAt H' xs (cutW (v.take i)).1) ?_ ?_ ?_
  · intro H5 e5
    refine ⟨⟨none, rfl⟩, e04.trans e5, e5 _ _ (e4 _ _ (e3 _ _ (ed _ _ g1))), ⟨_, e5 _ _ (e4 _ _ (e3 _ _ gd)), ⟨rfl, fun s hs => ?_, fun s hs => ?_⟩⟩, [], e5 _ _ (e4 _ _ g3), .nil⟩
    · rw [List.mem_singleton.mp hs]
      rfl
    · refine valV_neg fun e => hs ?_
      rw [← SX.S_inj (Sum.inr.inj e)]
      exact List.mem_singleton.mpr rfl
  · intro i c σ' H' hc p
    obtain ⟨⟨u5, rfl⟩, e6, h1, ⟨kvs, h2, dk⟩, xs, h3, hR⟩ := p
    have hc2 : v[i]? = some c := hc
    have hi := (List.getElem?_eq_some_iff.mp hc2).1
    have et : v.take (i + 1) = v.take i ++ [c] := by
      rw [List.take_add_one, hc2]
      rfl
    have ko := cut_ok (al := al) (v.take i) fun x hx => hv x (List.mem_of_mem_take hx)
    rw [et, cut_snoc]
    generalize cutW (v.take i) = st at *
    obtain ⟨rs, cur⟩ := st
    have few : rs.length ≤ (v.take i).length := ko.few
    rw [List.length_take] at few
    have low : cur ≤ rs.length := ko.low
    obtain ⟨nd, rows, ex⟩ := pcs_facts rs ko.ok
    have hpl := pcs_len rs
    have hpt := pcs_at rs cur
    have hxl : xs.length = rs.length := hR.len
    have hcat : ∀ {H1 : Hp} {σ' : L2.St}, σ'[4]? = some (some (tx ((pcs rs).getD cur []))) → σ'[5]? = some (some (tx [c])) → Ev (tOp (fun x y H Q => ∃ i j : Str, x = .str i ∧ y = .str j ∧ i.length + j.length ≤ sizeLine ∧ Q (.str (i ++ j)) H) (tVar 4) (tVar 5)) σ' H1 (tx ((pcs rs).getD cur [] ++ [c])) :=
      fun h4 h5 => ev_catS (b := [c]) (by show _ + 1 ≤ _; omega) (ev_var h4) (ev_var h5)
    have nld : l ≠ d := ne_of h1 h2 (by intro z; cases z)
    have nrd : rl ≠ d := ne_of h3 h2 (by intro z; cases z)
    have h1 : H' l = some (.lst ((pcs rs).map tx)) := h1
    refine s_if (et_din (o := valV kvs (Sum.inr (SX.S ((pcs rs).getD cur [] ++ [c])))) (hcat rfl rfl) (ev_var rfl) fun H8 e8 => DGet.k (k := Sum.inr (SX.S ((pcs rs).getD cur [] ++ [c]))) (e8 _ _ h2)) (fun hb H8 e8 => ?_) (fun hb H8 e8 => ?_)
    · have hin : (pcs rs).getD cur [] ++ [c] ∈ pcs rs := by
        refine Classical.byContradiction fun hn => ?_
        rw [dk.not _ hn] at hb
        cases hb
      have hm : (cur, c) ∈ rs := (ex cur c low).mp hin
      have es : cutStep (rs, cur) c = (rs, rs.idxOf (cur, c) + 1) := if_pos hm
      rw [es]
      refine s_asg (hcat rfl rfl) fun H9 e9 => ⟨⟨some (tx [c]), ?_⟩, (e6.trans e8).trans e9, e9 _ _ (e8 _ _ h1), ⟨kvs, e9 _ _ (e8 _ _ h2), dk⟩, xs, e9 _ _ (e8 _ _ h3), hR.mono (e8.trans e9)⟩
      · show _ = [some (tx v), some (V.ref l), some (V.ref d), some (V.ref rl), some (tx ((pcs rs).getD (rs.idxOf (cur, c) + 1) [])), some (tx [c])]
        rw [rows _ cur c (idx_row hm).2]
        rfl
    · have hout : (pcs rs).getD cur [] ++ [c] ∉ pcs rs := fun hn => by
        rw [dk.there _ hn] at hb
        cases hb
      have hm : (cur, c) ∉ rs := fun h => hout ((ex cur c low).mpr h)
      have es : cutStep (rs, cur) c = (rs ++ [(cur, c)], 0) := if_neg hm
      rw [es]
      have hcm : (pcs rs).getD cur [] ∈ pcs rs := getD_mem (by omega)
      have hval := dk.there _ hcm
      rw [idx_getD nd (by omega)] at hval
      have e68 := e6.trans e8
      refine q_appU (ys := [.int (cur : Int), tx [c]]) (e8 _ _ h3) (ev_var rfl) (eu_tup (ea_cons (ev_dget (ev_var rfl) (ev_var rfl) fun H9 e9 => ?_) (ea_cons (ev_var rfl) ea_nil)) (by show 2 ≤ 100000; decide)) (by omega) fun r H9 hr e9 g9 => ?_
      · have g := DGet.k (k := Sum.inr (SX.S ((pcs rs).getD cur []))) (e9 _ _ (e8 _ _ h2))
        rw [hval] at g
        exact g
      have e89 := e8.trans e9
      have nrr : r ≠ rl := ne_of g9 (e89 _ _ h3) (by intro z; cases z)
      have k1 : (L2.upd H9 rl (.lst (xs ++ [.ref r]))) l = some (.lst ((pcs rs).map tx)) ∨ True := .inr trivial
      by_cases nlr : l = rl
      · -- the list of rows is younger than that of the pieces
        exfalso
        rw [nlr] at h1
        rw [h1] at h3
        have e := Option.some.inj h3
        cases e
        have hlx := hxl
        rw [List.length_map, hpl] at hlx
        omega
      have k1 : (L2.upd H9 rl (.lst (xs ++ [.ref r]))) l = some (.lst ((pcs rs).map tx)) := by
        rw [upd_ne nlr]
        exact e89 _ _ h1
      have k2 : (L2.upd H9 rl (.lst (xs ++ [.ref r]))) d = some (.dK kvs) := by
        rw [upd_ne nrd.symm]
        exact e89 _ _ h2
      have k3 : (L2.upd H9 rl (.lst (xs ++ [.ref r]))) rl = some (.lst (xs ++ [.ref r])) := upd_same
      have kr' : (L2.upd H9 rl (.lst (xs ++ [.ref r]))) r = some (.tup [.int (cur : Int), tx [c]]) := by
        rw [upd_ne nrr]
        exact g9
      have kR : RowsAt (L2.upd H9 rl (.lst (xs ++ [.ref r]))) (xs ++ [.ref r]) (rs ++ [(cur, c)]) := ((hR.mono e89).upd (e89 _ _ h3) (fun ys => by intro z; cases z)).snoc kr'
      have ke : Ex H (L2.upd H9 rl (.lst (xs ++ [.ref r]))) := (e6.trans e89).mut hr0
      generalize L2.upd H9 rl (.lst (xs ++ [.ref r])) = G at k1 k2 k3 kR ke ⊢
      refine q_dput (v := .int ((pcs rs).length : Int)) (g := fun H10 => L2.upd H10 d (.dK (putK kvs (Sum.inr (SX.S ((pcs rs).getD cur [] ++ [c]))) (.int ((pcs rs).length : Int))))) (ev_is (ev_cb (ea_cons (ev_var rfl) ea_nil) (rc_lenL (sq_of k1))) (by rw [List.length_map])) (ev_var rfl) (hcat rfl rfl) (fun H10 e10 => DPut.k (k := Sum.inr (SX.S ((pcs rs).getD cur [] ++ [c]))) (e10 _ _ k2) (sz_lt (by rw [dk.len]; show (pcs rs).length < 100000; omega))) fun H10 e10 => ?_
      have m1 : (L2.upd H10 d (.dK (putK kvs (Sum.inr (SX.S ((pcs rs).getD cur [] ++ [c]))) (.int ((pcs rs).length : Int))))) l = some (.lst ((pcs rs).map tx)) := by
        rw [upd_ne nld]
        exact e10 _ _ k1
      have m2 : (L2.upd H10 d (.dK (putK kvs (Sum.inr (SX.S ((pcs rs).getD cur [] ++ [c]))) (.int ((pcs rs).length : Int))))) d = some (.dK (putK kvs (Sum.inr (SX.S ((pcs rs).getD cur [] ++ [c]))) (.int ((pcs rs).length : Int)))) := upd_same
      have m3 : (L2.upd H10 d (.dK (putK kvs (Sum.inr (SX.S ((pcs rs).getD cur [] ++ [c]))) (.int ((pcs rs).length : Int))))) rl = some (.lst (xs ++ [.ref r])) := by
        rw [upd_ne nrd]
        exact e10 _ _ k3
      have mR := (kR.mono e10).upd (o := .dK (putK kvs (Sum.inr (SX.S ((pcs rs).getD cur [] ++ [c]))) (.int ((pcs rs).length : Int)))) (e10 _ _ k2) (fun ys => by intro z; cases z)
      have me : Ex H (L2.upd H10 d (.dK (putK kvs (Sum.inr (SX.S ((pcs rs).getD cur [] ++ [c]))) (.int ((pcs rs).length : Int))))) := (ke.trans e10).mut hd0
      generalize L2.upd H10 d (.dK (putK kvs (Sum.inr (SX.S ((pcs rs).getD cur [] ++ [c]))) (.int ((pcs rs).length : Int)))) = G2 at m1 m2 m3 mR me ⊢
      refine q_app m1 (ev_var rfl) (hcat rfl rfl) (by show ((pcs rs).map tx).length < 100000; rw [List.length_map]; omega) fun H11 e11 => ?_
      have hnew : pcs (rs ++ [(cur, c)]) = pcs rs ++ [(pcs rs).getD cur [] ++ [c]] := pcs_snoc rs (cur, c)
      refine s_asg (v := tx []) (ev_is ev_c (by rw [mt_is])) fun H12 e12 => ⟨⟨some (tx [c]), ?_⟩, ((me.trans e11).mut hl0).trans e12, ?_, ⟨_, e12 _ _ (by rw [upd_ne nld.symm]; exact e11 _ _ m2), ?_⟩, xs ++ [.ref r], e12 _ _ (by rw [upd_ne (Ne.symm nlr)]; exact e11 _ _ m3), ((mR.mono e11).upd (e11 _ _ m1) (fun ys => by intro z; cases z)).mono e12⟩
      · show _ = [some (tx v), some (V.ref l), some (V.ref d), some (V.ref rl), some (tx ((pcs (rs ++ [(cur, c)])).getD 0 [])), some (tx [c])]
        rw [pcs_zero]
        rfl
      · refine e12 _ _ ?_
        show (L2.upd H11 l _) l = some (.lst ((pcs (rs ++ [(cur, c)])).map tx))
        rw [upd_same, hnew, List.map_append]
        rfl
      · show DictS _ (pcs (rs ++ [(cur, c)]))
        rw [hnew]
        exact dk.put hout
  · intro σ' H' p
    obtain ⟨⟨u5, rfl⟩, e6, h1, ⟨kvs, h2, dk⟩, xs, h3, hR⟩ := p
    have ef : v.take (SX.S v).cps.size = v := by
      show v.take v.toArray.size = v
      simp
    rw [ef] at h1 dk hR ⊢
    have ko := cut_ok (al := al) v hv
    obtain ⟨nd, rows, ex⟩ := pcs_facts _ ko.ok
    have hpl := pcs_len (cutW v).1
    have low := ko.low
    have hcm : (pcs (cutW v).1).getD (cutW v).2 [] ∈ pcs (cutW v).1 := getD_mem (by omega)
    have hval := dk.there _ hcm
    rw [idx_getD nd (by omega)] at hval
    refine s_retLst3 (eu_tupOf (ev_var rfl) (sq_of h3)) (fun H7 e7 => ev_dget (ev_var rfl) (ev_var rfl) fun H9 e9 => ?_) (fun H7 e7 => ev_var rfl) fun r p H7 hp e7 g7 k7 => q p H7 (fresh_back e6 hp) (e6.trans e7) ⟨r, l, xs, k7, g7, hR.mono e7, e7 _ _ h1⟩
    have g := DGet.k (k := Sum.inr (SX.S ((pcs (cutW v).1).getD (cutW v).2 []))) (e9 _ _ (e7 _ _ h2))
    rw [hval] at g
    exact g
end
end Ver
namespace Ver
/-! ### what a piece begins with is a piece before it -/
theorem pcs_pre {al : List Nat} {rs : Rw} (ok : RowsOk al rs) : ∀ i, i ≤ rs.length → ∀ k, k ≤ ((pcs rs).getD i []).length → ∃ j, j ≤ i ∧ (k < ((pcs rs).getD i []).length → j < i) ∧ ((pcs rs).getD i []).take k = (pcs rs).getD j [] := by
  intro i
  induction i using Nat.strongRecOn with
  | _ i ih =>
    intro hi k hk
    by_cases hk2 : k = ((pcs rs).getD i []).length
    · exact ⟨i, Nat.le_refl i, fun h => by omega, by rw [hk2, List.take_length]⟩
    have hk3 : k < ((pcs rs).getD i []).length := by omega
    match i, ih, hi, hk, hk2, hk3 with
    | 0, ih, hi, hk, hk2, hk3 =>
      rw [pcs_zero] at hk3
      exact absurd hk3 (Nat.not_lt_zero _)
    | i + 1, ih, hi, hk, hk2, hk3 =>
      obtain ⟨_, rows, _⟩ := pcs_facts rs ok
      have hg := rowAt_get (rs := rs) (k := i) (by omega)
      have hp := (row_ok ok (k := i) (by omega)).1
      generalize rowAt rs i = r at hg hp
      obtain ⟨p, c⟩ := r
      have hp : p ≤ i := hp
      have e := rows i p c hg
      rw [e] at hk3 ⊢
      rw [List.length_append] at hk3
      have hk3 : k < ((pcs rs).getD p []).length + 1 := hk3
      obtain ⟨j, h1, _, h3⟩ := ih p (by omega) (by omega) k (by omega)
      exact ⟨j, by omega, fun _ => by omega, by rw [List.take_append_of_le_length (by omega)]; exact h3⟩
theorem pcs_take : ∀ (rs : Rw) (i : Nat), i ≤ rs.length → pcs (rs.take i) = (pcs rs).take (i + 1) := by
  intro rs
  induction rs using snoc_ind with
  | h0 =>
    intro i hi
    have : i = 0 := Nat.le_zero.mp hi
    subst this
    rfl
  | hs rs a ih =>
    intro i hi
    rw [List.length_append] at hi
    have hi : i ≤ rs.length + 1 := hi
    by_cases h : i ≤ rs.length
    · rw [List.take_append_of_le_length h, ih i h, pcs_snoc, List.take_append_of_le_length (by rw [pcs_len]; omega)]
    · have : i = rs.length + 1 := by omega
      subst this
      rw [List.take_of_length_le (by rw [List.length_append]; exact Nat.le_refl _), List.take_of_length_le (by rw [pcs_len, List.length_append]; exact Nat.le_refl _)]
theorem take_mem {l : List (List Nat)} {j n : Nat} (h : j < n) (hl : j < l.length) : l.getD j [] ∈ l.take n := by
  rw [List.getD_eq_getElem?_getD, List.getElem?_eq_getElem hl]
  show l[j] ∈ _
  have : (l.take n)[j]? = some l[j] := by rw [List.getElem?_take, if_pos h, List.getElem?_eq_getElem hl]
  exact List.mem_of_getElem? this
/-- what stands at the place of a piece -/
theorem flat_at (ps : List (List Nat)) (i : Nat) (h : i < ps.length) : ps.flatten = (ps.take i).flatten ++ (ps.getD i [] ++ (ps.drop (i + 1)).flatten) := by
  have e : ps = ps.take i ++ (ps.getD i [] :: ps.drop (i + 1)) := by
    rw [List.getD_eq_getElem?_getD, List.getElem?_eq_getElem h]
    show ps = ps.take i ++ (ps[i] :: ps.drop (i + 1))
    rw [← List.drop_eq_getElem_cons h, List.take_append_drop]
  have e2 := congrArg List.flatten e
  rw [List.flatten_append, List.flatten_cons] at e2
  exact e2
theorem flat_len2 {ps : List (List Nat)} {i : Nat} (h : i < ps.length) : (ps.take (i + 1)).flatten.length = (ps.take i).flatten.length + (ps.getD i []).length := by
  rw [List.take_add_one, List.getElem?_eq_getElem h, List.flatten_append, List.length_append, List.getD_eq_getElem?_getD, List.getElem?_eq_getElem h]
  simp
theorem drop_at {v a b c : List Nat} (h : v = a ++ (b ++ c)) : v.drop a.length = b ++ c := by
  rw [h, List.drop_left]
end Ver
namespace Ver
open PySem PySem.Spec PyProof.Rows L2 Evl
/-! ### where the pieces begin -/
def fl (ps : List (List Nat)) (i : Nat) : Nat := (ps.take (i + 1)).flatten.length
theorem fl_step {ps : List (List Nat)} {i : Nat} (h : i + 1 < ps.length) : fl ps (i + 1) = fl ps i + (ps.getD (i + 1) []).length := flat_len2 h
theorem sts_fl {rs : Rw} : sts (pcs rs) = (List.range (pcs rs).length).map fun i => (fl (pcs rs) i : Int) := by
  unfold sts fl
  refine List.map_congr_left fun i _ => ?_
  have hz := pcs_zero rs
  have hl := pcs_len rs
  match h : pcs rs, hz, hl with
  | p :: ps, hz, _ =>
    have hz : p = [] := hz
    subst hz
    rfl
section
variable {K : PySem.W.Frag} {H : Hp}
theorem lay_int {n : Int} : PyData.canLay0 (.int n) = true ∧ PyData.depth (.int n) ≤ 0 := by
  constructor
  · simp [PyData.canLay0]
  · simp [PyData.depth]
theorem rv_eqTxs {p q : Addr} {ss : List (List Nat)} (hr : ∀ s ∈ ss, ∀ c ∈ s, c < 1114112) (h1 : H p = some (.tup (ss.map tx))) (h2 : H q = some (.tup (ss.map tx))) : RV (rEqD K) (.ref p) (.ref q) H (.bl true) :=
  rv_eqSame (d := .tuple (ss.map fun s => PyData.str (SX.S s))) (shaped_tup (n := 0) (fun d hd => by
    obtain ⟨s, hs, rfl⟩ := List.mem_map.mp hd
    exact lay_tx fun c hc => hr s hs c hc) (by decide)) (fun H1 e => .tup (st_of (e _ _ h1)) (dp_txs _)) fun H1 e => .tup (st_of (e _ _ h2)) (dp_txs _)
theorem rv_eqTis {p q : Addr} {ns : List Int} (h1 : H p = some (.tup (ns.map V.int))) (h2 : H q = some (.tup (ns.map V.int))) : RV (rEqD K) (.ref p) (.ref q) H (.bl true) :=
  rv_eqSame (d := .tuple (ns.map PyData.int)) (shaped_tup (n := 0) (fun d hd => by
    obtain ⟨s, hs, rfl⟩ := List.mem_map.mp hd
    exact lay_int) (by decide)) (fun H1 e => .tup (st_of (e _ _ h1)) (dp_ints ns)) fun H1 e => .tup (st_of (e _ _ h2)) (dp_ints ns)
theorem ev_opU {σ : L2.St} {r : R2} {ta tb : TE} {x z : V} {ys : List V} (ha : Ev ta σ H x) (hb : EvU tb σ H ys) (hr : ∀ q H1, Ex H H1 → H1 q = some (.tup ys) → RV r x (.ref q) H1 z) : Ev (tOp r ta tb) σ H z := fun H1 e Q q =>
  ha H1 e _ fun H2 e2 => hb H2 (e.trans e2) _ fun p H3 hp e3 g3 => hr p H3 ((e.trans e2).trans e3) g3 H3 (Ex.refl H3) Q fun H4 e4 => q H4 ((e2.trans e3).trans e4)
theorem et_dnin {σ : L2.St} {ty td : TE} {a : Addr} {y : V} {o : Option V} (hy : Ev ty σ H y) (hd : Ev td σ H (.ref a)) (hg : ∀ H1, Ex H H1 → DGet H1 a y o) : EvT (tB (tDNotIn ty td)) σ H (!o.isSome) := fun H1 e Q q =>
  hy H1 e _ fun H2 e2 => hd H2 (e.trans e2) _ fun H3 e3 => ⟨a, o, rfl, hg H3 ((e.trans e2).trans e3), (!o.isSome), rfl, q H3 (e2.trans e3)⟩
end
section
variable {P : Program} {w : World} {K : PySem.W.Frag} {mg : Str → Option Value} {base : Heap} {C_Cut : Addr}
/-! ### _law_is_cut -/
def spIs (C : Addr) : Sp := fun vs H Q _ => ∃ (p : Addr) (al v : List Nat), vs = [.ref p, tx al, tx v] ∧ Alf al ∧ (∀ c ∈ v, c ∈ al) ∧ v.length ≤ 1000 ∧ CutAt C H p al (cutW v).1 (cutW v).2 ∧ RetV (.bl true) H Q
theorem has_is (F : At K mg "_law_is_cut" s__law_is_cut) (T : Top K mg C_Cut) (EQ : EqC K C_Cut) (h1 : Has P w K mg base "_law_kinds" s__law_kinds ["told"] 2 (spKinds C_Cut)) : Has P w K mg base "_law_is_cut" s__law_is_cut ["told", "signs", "word"] 3 (spIs C_Cut) := by
  obtain ⟨f, fd, F, m⟩ := F.ex
  obtain ⟨f1, fd1, _, G__law_kinds, b__law_kinds, m__law_kinds, k__law_kinds⟩ := h1
  refine ⟨f, fd, F, F.ok S__law_is_cut (fun vs H Q E h => ?_) (fun cdv A outer s H vs Q E hr h => ?_), F.binds fun _ _ _ _ _ _ us hl => match us, hl with | [_, _, _], _ => rfl, m, F.kp⟩
  · obtain ⟨p, al, v, rfl, _⟩ := h
    rfl
  obtain ⟨p, al, v, rfl, hA, hv, hz, hC, q⟩ := h
  have ko := cut_ok (al := al) v hv
  generalize cutW v = st at hC ko
  obtain ⟨rs, t⟩ := st
  have hC : CutAt C_Cut H p al rs t := hC
  have ok : RowsOk al rs := ko.ok
  have low : t ≤ rs.length := ko.low
  have word : v = (pcs rs).flatten ++ (pcs rs).getD t [] := ko.word
  have few : rs.length ≤ v.length := ko.few
  obtain ⟨dx, ra, pa, sa, xs, g1, g2, g3, g4, g5⟩ := hC.ex
  rw [← word] at g1
  have cl := T.cl_Cut
  have pre := pcs_pre ok
  have ptk := pcs_take rs
  obtain ⟨nd, rows, _⟩ := pcs_facts rs ok
  have hpl := pcs_len rs
  have hst := sts_fl (rs := rs)
  have hps : ∀ s ∈ pcs rs, ∀ c ∈ s, c < 1114112 := fun s hs c hc => hA.uni (hv c (by
    rw [word]
    exact List.mem_append_left _ (List.mem_flatten.mpr ⟨s, hs, hc⟩)))
  have fa := flat_at (pcs rs)
  have fst := fun i => fl_step (ps := pcs rs) (i := i)
  have hfl : ∀ i, i ≤ rs.length → fl (pcs rs) i ≤ v.length := fun i hi => by
    have := flat_take (pcs rs) (i + 1)
    have h2 := congrArg List.length word
    rw [List.length_append] at h2
    unfold fl
    omega
  have hg : g3.len = g3.len := rfl
  rw [hst] at g5
  -- what stands in the word at a piece's place
  have at_ : ∀ i, i < rs.length → ∀ k, k ≤ ((pcs rs).getD (i + 1) []).length → (v.drop (fl (pcs rs) i)).take k = ((pcs rs).getD (i + 1) []).take k := fun i hi k hk => by
    have e := fa (i + 1) (by omega)
    have e2 : v = ((pcs rs).take (i + 1)).flatten ++ ((pcs rs).getD (i + 1) [] ++ (((pcs rs).drop (i + 1 + 1)).flatten ++ (pcs rs).getD t [])) := by
      conv => lhs; rw [word, e]
      simp only [List.append_assoc]
    unfold fl
    rw [drop_at e2, List.take_append_of_le_length hk]
  have at_end : v.drop (fl (pcs rs) rs.length) = (pcs rs).getD t [] := by
    unfold fl
    rw [← hpl, List.take_length]
    conv => lhs; rw [word]
    rw [List.drop_left]
  have zero : fl (pcs rs) 0 = 0 := by
    unfold fl
    rw [← ptk 0 (Nat.zero_le _)]
    rfl
  have hptl : ∀ i, i ≤ rs.length → ((pcs rs).take (i + 1)).length = i + 1 := fun i hi => by rw [List.length_take]; omega
  have pcl : ∀ i, i ≤ rs.length → ((pcs rs).getD i []).length ≤ v.length := fun i hi => by
    have h2 := congrArg List.length word
    rw [List.length_append] at h2
    have h3 := fa i (by omega)
    have h3 := congrArg List.length h3
    rw [List.length_append, List.length_append] at h3
    omega
  have gsn : ∀ i, i < rs.length → (pcs rs).take (i + 1 + 1) = (pcs rs).take (i + 1) ++ [(pcs rs).getD (i + 1) []] := fun i hi => by
    rw [List.take_add_one, List.getD_eq_getElem?_getD, List.getElem?_eq_getElem (by omega)]
    rfl
  have gnew : ∀ i, i < rs.length → (pcs rs).getD (i + 1) [] ∉ (pcs rs).take (i + 1) := fun i hi hm => by
    have h2 : ((pcs rs).take (i + 1 + 1)).Nodup := nd.sublist (List.take_sublist _ _)
    rw [gsn i hi] at h2
    exact (List.nodup_append.mp h2).2.2 _ hm _ (List.mem_singleton.mpr rfl) rfl
  have gidx : (pcs rs).idxOf ((pcs rs).getD t []) = t := idx_getD nd (by omega)
  generalize hPS : pcs rs = ps at *
  refine ⟨_, (pss_cons
    (ps_if (PW.pt (pw_or (pt_not (pt_val (pe_callB call_isi rfl T.z_isinstance (by decide +kernel) (pa_cons (pv 0) (pa_cons (pe_glob (v := .ref C_Cut) rfl T.c_Cut rfl) pa_nil))))) (pw_or (pt_not (pt_val (pe_call G__law_kinds (hr.mono (by decide)) rfl m__law_kinds k__law_kinds b__law_kinds .nil pass0 (pa_cons (pv 0) pa_nil)))) (pw_or (pt_cmpR op_ne (pe_fld (pv 0) rfl) (pv 1) (nomark _)) (pw_or1 (pt_cmpR op_ne (pe_fld (pv 0) rfl) (pv 2) (nomark _))))))) (pss_one
    (ps_ret pe_bl)) pss_nil)
    (pss_cons
    (ps_set (i := 3) S__law_is_cut.nd rfl (Or.inl rfl) (pe_lst (pa_cons pe_str pa_nil)))
    (pss_cons
    (ps_set (i := 4) S__law_is_cut.nd rfl (Or.inl rfl) (pe_disp (pps_cons pe_str pe_int pps_nil) (by rfl) (by rfl) (fun z => by cases z) (by decide)))
    (pss_cons
    (ps_set (i := 5) S__law_is_cut.nd rfl (Or.inl rfl) (pe_lst pa_nil))
    (pss_cons
    (ps_set (i := 6) S__law_is_cut.nd rfl (Or.inl rfl) pe_int)
    (pss_cons
    (ps_for PassesOwn.never rfl (pi_tup (pe_fld (pv 0) rfl)) (pg_name (i := 7) S__law_is_cut.nd rfl (Or.inl rfl)) (pss_cons
    (ps_if (PW.pt (pw_or (pt_cmpR op_lt (pe_ix (r := rIxT K) ix_tup (pv 7) pe_int (fun _ _ => rfl)) pe_int (nomark _)) (pw_or (pt_cmpR op_ge (pe_ix (r := rIxT K) ix_tup (pv 7) pe_int (fun _ _ => rfl)) (pe_callB call_len_seq rfl T.z_len PySem.boot_len (pa_cons (pv 3) pa_nil)) (nomark _)) (pw_or1 (pt_cmpR op_ne (pe_callB call_len_str rfl T.z_len PySem.boot_len (pa_cons (pe_ix (r := rIxT K) ix_tup (pv 7) pe_int (fun _ _ => rfl)) pa_nil)) pe_int (nomark _)))))) (pss_one
    (ps_ret pe_bl)) pss_nil)
    (pss_cons
    (ps_set (i := 8) S__law_is_cut.nd rfl (Or.inl rfl) (pe_op op_add_str (pe_ix (r := rIxL K) ix_list (pv 3) (pe_ix (r := rIxT K) ix_tup (pv 7) pe_int (fun _ _ => rfl)) (fun _ _ => rfl)) (pe_ix (r := rIxT K) ix_tup (pv 7) pe_int (fun _ _ => rfl))))
    (pss_cons
    (ps_for PassesOwn.never rfl (pi_range1 rfl T.z_range (pa_cons (pe_callB call_len_str rfl T.z_len PySem.boot_len (pa_cons (pv 8) pa_nil)) pa_nil)) (pg_name (i := 9) S__law_is_cut.nd rfl (Or.inl rfl)) (pss_one
    (ps_if (pt_cmp (pc_dnotin (hu_of hr) (pe_slice sl_str (pv 2) (po_some (pv 6)) (po_some (pe_op op_add (pv 6) (pv 9)))) (pv 4))) (pss_one
    (ps_ret pe_bl)) pss_nil)))
    (pss_cons
    (ps_if (PW.pt (pw_or (pt_cmp (pc_din (hu_of hr) (pv 8) (pv 4))) (pw_or1 (pt_cmpR op_ne (pe_slice sl_str (pv 2) (po_some (pv 6)) (po_some (pe_op op_add (pv 6) (pe_callB call_len_str rfl T.z_len PySem.boot_len (pa_cons (pv 8) pa_nil))))) (pv 8) (nomark _))))) (pss_one
    (ps_ret pe_bl)) pss_nil)
    (pss_cons
    (ps_expr (pe_bm PySem.F.plainAttrs_list PySem.F.slot_list_append PySem.F.type_list_append mt_append (pv 5) (pa_cons (pv 6) pa_nil)))
    (pss_cons
    (ps_dput (hu_of hr) (pv 4) (pv 8) (pe_callB call_len_seq rfl T.z_len PySem.boot_len (pa_cons (pv 3) pa_nil)) rfl)
    (pss_cons
    (ps_expr (pe_bm PySem.F.plainAttrs_list PySem.F.slot_list_append PySem.F.type_list_append mt_append (pv 3) (pa_cons (pv 8) pa_nil)))
    (pss_one
    (ps_set (i := 6) S__law_is_cut.nd rfl (Or.inl rfl) (pe_op op_add (pv 6) (pe_callB call_len_str rfl T.z_len PySem.boot_len (pa_cons (pv 8) pa_nil)))))))))))))
    (pss_cons
    (ps_expr (pe_bm PySem.F.plainAttrs_list PySem.F.slot_list_append PySem.F.type_list_append mt_append (pv 5) (pa_cons (pv 6) pa_nil)))
    (pss_cons
    (ps_for PassesOwn.never rfl (pi_range1 rfl T.z_range (pa_cons (pe_op op_add (pe_op op_sub (pe_callB call_len_str rfl T.z_len PySem.boot_len (pa_cons (pv 2) pa_nil)) (pv 6)) pe_int) pa_nil)) (pg_name (i := 9) S__law_is_cut.nd rfl (Or.inl rfl)) (pss_one
    (ps_if (pt_cmp (pc_dnotin (hu_of hr) (pe_slice sl_str (pv 2) (po_some (pv 6)) (po_some (pe_op op_add (pv 6) (pv 9)))) (pv 4))) (pss_one
    (ps_ret pe_bl)) pss_nil)))
    (pss_cons
    (ps_if (PW.pt (pw_or (pt_cmpR op_ne (pe_fld (pv 0) rfl) (pe_dget (hu_of hr) (pv 4) (pe_slice sl_str (pv 2) (po_some (pv 6)) po_none) (fun _ _ => rfl)) (nomark _)) (pw_or1 (pt_cmpR op_ne (pe_fld (pv 0) rfl) (pe_op op_sub (pe_callB call_len_seq rfl T.z_len PySem.boot_len (pa_cons (pv 3) pa_nil)) pe_int) (nomark _))))) (pss_one
    (ps_ret pe_bl)) pss_nil)
    (pss_one
    (ps_ret (pe_and (pe_cmpR (op_eqD hr.units) (pe_fld (pv 0) rfl) (pe_callTy call_tuple_of rfl T.z_tuple (by decide +kernel) (pa_cons (pv 3) pa_nil)) (nomark _)) (pe_one (pe_cmpR (op_eqD hr.units) (pe_fld (pv 0) rfl) (pe_callTy call_tuple_of rfl T.z_tuple (by decide +kernel) (pa_cons (pv 5) pa_nil)) (nomark _))))))))))))))), ?_⟩
  refine q_skip (et_is (et_or (et_not (et_B (ev_cb (ea_cons (ev_var rfl) (ea_cons ev_c ea_nil)) (rc_isiC EQ cl g1)))) fun _ => et_or (et_not (et_B (ev_call (ea_cons (ev_var rfl) ea_nil) (sv_kinds hC)))) fun _ => et_or (et_neS (ev_fld (ev_var rfl) g1 cl T.n_Cut_alphabet fs_alphabet) (ev_var rfl)) fun _ => et_neS (ev_fld (ev_var rfl) g1 cl T.n_Cut_text fs_text) (ev_var rfl)) (by simp)) fun H0 e0 => ?_
  refine q_asgL (xs := [[]].map tx) (el_lst (ea_cons (ev_is ev_c (by rw [mt_is])) ea_nil) (by show 1 ≤ 100000; decide)) fun l H1 hl e1 k1 => ?_
  refine q_asgX fun d hd => ?_
  have g0 : (L2.upd H1 d (.dK [])) d = some (.dK []) := upd_same
  refine ⟨g0, [(Sum.inr (SX.S []), V.int 0)], by rw [← mt_is]; rfl, by decide, ?_⟩
  have ed : Ex H1 (L2.upd (L2.upd H1 d (.dK [])) d (.dK (mergeK [] [(Sum.inr (SX.S []), V.int 0)]))) := (Ex.refl H1).mut hd |>.mut hd
  have gd : (L2.upd (L2.upd H1 d (.dK [])) d (.dK (mergeK [] [(Sum.inr (SX.S []), V.int 0)]))) d = some (.dK [(Sum.inr (SX.S []), V.int 0)]) := by
    rw [upd_same]
    rfl
  generalize L2.upd (L2.upd H1 d (.dK [])) d (.dK (mergeK [] [(Sum.inr (SX.S []), V.int 0)])) = H2 at ed gd ⊢
  refine q_asgL (xs := []) (el_lst ea_nil (by decide)) fun sl H3 hsl e3 k3 => ?_
  refine q_asg ev_c fun H4 e4 => ?_
  have e01 := e0.trans e1
  have e02 := e01.trans ed
  have hl0 : H l = none := fresh_back e0 hl
  have hd0 : H d = none := fresh_back e01 hd
  have hs0 : H sl = none := fresh_back e02 hsl
  have e04 := (e02.trans e3).trans e4
  have z0 : ps.take 1 = [[]] := by
    rw [← ptk 0 (Nat.zero_le _)]
    rfl
  refine q_forT (ev_fld (ev_var rfl) (e04 _ _ g1) cl T.n_Cut_rows fs_rows) (st_of (e04 _ _ g2)) (fun i σ' H' => (∃ u7 u8 u9, σ' = [some (.ref p), some (tx al), some (tx v), some (.ref l), some (.ref d), some (.ref sl), some (.int (fl ps i : Int)), u7, u8, u9]) ∧ Ex H H' ∧
    H' l = some (.lst ((ps.take (i + 1)).map tx)) ∧ (∃ kvs, H' d = some (.dK kvs) ∧ DictS kvs (ps.take (i + 1))) ∧ H' sl = some (.lst (((List.range i).map fun j => (fl ps j : Int)).map V.int))) ?_ (fun i σ' H' _ z => st_of (z.2.1 _ _ g2)) ?_ ?_
  · intro H5 e5
    refine ⟨⟨none, none, none, by rw [zero]; rfl⟩, e04.trans e5, by rw [z0]; exact e5 _ _ (e4 _ _ (e3 _ _ (ed _ _ k1))), ⟨_, e5 _ _ (e4 _ _ (e3 _ _ gd)), ?_⟩, e5 _ _ (e4 _ _ k3)⟩
    rw [z0]
    refine ⟨rfl, fun s hs => ?_, fun s hs => ?_⟩
    · rw [List.mem_singleton.mp hs]
      rfl
    · refine valV_neg fun e => hs ?_
      rw [← SX.S_inj (Sum.inr.inj e)]
      exact List.mem_singleton.mpr rfl
  · intro i x σ' H' hx z
    obtain ⟨⟨u7, u8, u9, rfl⟩, e5, m1, ⟨kvs, m2, dk⟩, m3⟩ := z
    obtain ⟨hi, r, rfl, hr'⟩ := g3.get hx
    have hrow := rowAt_get hi
    have hp0 := (row_ok ok hi).1
    generalize rowAt rs i = rw_ at hr' hrow hp0
    obtain ⟨p0, c0⟩ := rw_
    have hp0 : p0 ≤ i := hp0
    have hr' : H r = some (.tup [.int (p0 : Int), tx [c0]]) := hr'
    have hr0 := e5 _ _ hr'
    have epc := rows i p0 c0 hrow
    have hlen := hptl i (by omega)
    have nld : l ≠ d := ne_of m1 m2 (by intro z; cases z)
    have nsd : sl ≠ d := ne_of m3 m2 (by intro z; cases z)
    have nls : l ≠ sl := fun z => by
      rw [z, m3] at m1
      have e := HO.lst.inj (Option.some.inj m1)
      have e2 := congrArg List.length e
      rw [List.length_map, List.length_map, List.length_map, List.length_range] at e2
      omega
    have r0 : ∀ {σ : L2.St} {H1 : Hp}, Ex H' H1 → σ[7]? = some (some (.ref r)) → Ev (tOp (rIxT K) (tVar 7) (tC (.int 0))) σ H1 (.int (p0 : Int)) := fun e h => ev_op (ev_var h) ev_c (rv_ixT (st_of (e _ _ hr0)) (atI_nat (j := 0) rfl))
    have r1 : ∀ {σ : L2.St} {H1 : Hp}, Ex H' H1 → σ[7]? = some (some (.ref r)) → Ev (tOp (rIxT K) (tVar 7) (tC (.int 1))) σ H1 (tx [c0]) := fun e h => ev_op (ev_var h) ev_c (rv_ixT (st_of (e _ _ hr0)) (atI_nat (j := 1) rfl))
    refine q_skip (et_is (et_or (et_lt (r0 (Ex.refl _) rfl) ev_c) fun _ => et_or (et_ge (r0 (Ex.refl _) rfl) (ev_cb (ea_cons (ev_var rfl) ea_nil) (rc_lenL (sq_of m1)))) fun _ => et_neI (ev_lenS (l := [c0]) (by show 1 ≤ 100000; decide) (r1 (Ex.refl _) rfl)) (ev_c (v := V.int 1))) (by
      have q1 : decide ((p0 : Int) < 0) = false := decide_eq_false (by omega)
      have q2 : decide (((((ps.take (i + 1)).map tx).length : Nat) : Int) ≤ (p0 : Int)) = false := decide_eq_false (by rw [List.length_map, hlen]; omega)
      rw [q1, q2]
      rfl)) fun H6 e6 => ?_
    have hget : ((ps.take (i + 1)).map tx)[p0]? = some (tx (ps.getD p0 [])) := by
      rw [List.getElem?_map, List.getElem?_take, if_pos (by omega), List.getD_eq_getElem?_getD, List.getElem?_eq_getElem (by omega)]
      rfl
    have pl0 := pcl p0 (by omega)
    refine q_asg (v := tx (ps.getD (i + 1) [])) (ev_is (ev_catS (a := ps.getD p0 []) (b := [c0]) (by show _ + 1 ≤ _; omega) (ev_op (ev_var rfl) (r0 e6 rfl) (rv_ixL (sq_of (e6 _ _ m1)) (atI_nat hget))) (r1 e6 rfl)) (by rw [epc])) fun H7 e7 => ?_
    have e67 := e6.trans e7
    have pl1 := pcl (i + 1) (by omega)
    have fli := hfl i (by omega)
    have slc : ∀ {σ : L2.St} {H1 : Hp} {te : TE} {k : Nat}, σ[2]? = some (some (tx v)) → σ[6]? = some (some (.int (fl ps i : Int))) → Ev te σ H1 (.int (k : Int)) → Ev (tSl rSlS (tVar 2) (tPart (tVar 6)) (tPart (tOp (rI0 fun i j => .int (i + j)) (tVar 6) te))) σ H1 (tx ((v.drop (fl ps i)).take k)) := fun h2 h6 hk =>
      ev_is (ev_slS (hi := some ((fl ps i + _ : Nat) : Int)) (by omega) (ev_var h2) (eo_some (ev_var h6)) (eo_some (ev_is (ev_add (ev_var h6) hk) (by rw [Int.natCast_add])))) (by rw [cutL_both])
    refine q_forR1 (ea_cons (ev_lenS (by omega) (ev_var (v := tx (ps.getD (i + 1) [])) rfl)) ea_nil) ⟨by omega, by omega⟩ (fun k σ' H2 => (∃ u9, σ' = [some (.ref p), some (tx al), some (tx v), some (.ref l), some (.ref d), some (.ref sl), some (.int (fl ps i : Int)), some (.ref r), some (tx (ps.getD (i + 1) [])), u9]) ∧ Ex H7 H2) (fun H8 e8 => ⟨⟨_, rfl⟩, e8⟩) ?_ ?_
    · intro k σ' H8 hk z
      obtain ⟨⟨u, rfl⟩, e8⟩ := z
      have hk : k < (ps.getD (i + 1) []).length := by omega
      obtain ⟨j, _, hj, ej⟩ := pre (i + 1) (by omega) k (by omega)
      have hj := hj hk
      have hm : ps.getD j [] ∈ ps.take (i + 1) := take_mem (by omega) (by omega)
      have hval := dk.there _ hm
      have ew : (v.drop (fl ps i)).take k = ps.getD j [] := by rw [at_ i hi k (by omega), ej]
      refine s_when (b := false) (et_is (et_dnin (o := valV kvs (Sum.inr (SX.S (ps.getD j [])))) (ev_is (slc (k := k) rfl rfl (ev_var rfl)) (by rw [ew] <;> rfl)) (ev_var rfl) fun H9 e9 => DGet.k (k := Sum.inr (SX.S (ps.getD j []))) (e9 _ _ (e8 _ _ (e67 _ _ m2)))) (by rw [hval]; rfl)) (fun z => by cases z) fun _ H9 e9 => ⟨⟨_, rfl⟩, e8.trans e9⟩
    intro σ' H8 z
    obtain ⟨⟨u, rfl⟩, e8⟩ := z
    have e68 := e67.trans e8
    have hnew := gnew i hi
    refine q_skip (et_is (et_or (et_din (o := valV kvs (Sum.inr (SX.S (ps.getD (i + 1) [])))) (ev_var rfl) (ev_var rfl) fun H9 e9 => DGet.k (k := Sum.inr (SX.S (ps.getD (i + 1) []))) (e9 _ _ (e68 _ _ m2))) fun _ => et_neS (slc (k := (ps.getD (i + 1) []).length) rfl rfl (ev_lenS (by omega) (ev_var rfl))) (ev_var rfl)) (by
      rw [dk.not _ hnew, at_ i hi _ (Nat.le_refl _), List.take_length, decide_eq_true rfl]
      rfl)) fun H9 e9 => ?_
    have e69 := e68.trans e9
    refine q_app (e69 _ _ m3) (ev_var rfl) (ev_var rfl) (by rw [List.length_map, List.length_map, List.length_range]; omega) fun H10 e10 => ?_
    have e610 := e69.trans e10
    have b1 : (L2.upd H10 sl (.lst (((List.range i).map fun j => (fl ps j : Int)).map V.int ++ [.int (fl ps i : Int)]))) l = some (.lst ((ps.take (i + 1)).map tx)) := by
      rw [upd_ne nls]
      exact e610 _ _ m1
    have b2 : (L2.upd H10 sl (.lst (((List.range i).map fun j => (fl ps j : Int)).map V.int ++ [.int (fl ps i : Int)]))) d = some (.dK kvs) := by
      rw [upd_ne nsd.symm]
      exact e610 _ _ m2
    have b3 : (L2.upd H10 sl (.lst (((List.range i).map fun j => (fl ps j : Int)).map V.int ++ [.int (fl ps i : Int)]))) sl = some (.lst (((List.range (i + 1)).map fun j => (fl ps j : Int)).map V.int)) := by
      rw [upd_same, List.range_succ, List.map_append, List.map_append]
      rfl
    have be : Ex H (L2.upd H10 sl (.lst (((List.range i).map fun j => (fl ps j : Int)).map V.int ++ [.int (fl ps i : Int)]))) := (e5.trans e610).mut hs0
    generalize L2.upd H10 sl (.lst (((List.range i).map fun j => (fl ps j : Int)).map V.int ++ [.int (fl ps i : Int)])) = G at b1 b2 b3 be ⊢
    refine q_dput (v := .int ((ps.take (i + 1)).length : Int)) (g := fun H11 => L2.upd H11 d (.dK (putK kvs (Sum.inr (SX.S (ps.getD (i + 1) []))) (.int ((ps.take (i + 1)).length : Int))))) (ev_is (ev_cb (ea_cons (ev_var rfl) ea_nil) (rc_lenL (sq_of b1))) (by rw [List.length_map])) (ev_var rfl) (ev_var rfl) (fun H11 e11 => DPut.k (k := Sum.inr (SX.S (ps.getD (i + 1) []))) (e11 _ _ b2) (sz_lt (by rw [dk.len, hlen]; omega))) fun H11 e11 => ?_
    have a1 : (L2.upd H11 d (.dK (putK kvs (Sum.inr (SX.S (ps.getD (i + 1) []))) (.int ((ps.take (i + 1)).length : Int))))) l = some (.lst ((ps.take (i + 1)).map tx)) := by
      rw [upd_ne nld]
      exact e11 _ _ b1
    have a2 : (L2.upd H11 d (.dK (putK kvs (Sum.inr (SX.S (ps.getD (i + 1) []))) (.int ((ps.take (i + 1)).length : Int))))) d = some (.dK (putK kvs (Sum.inr (SX.S (ps.getD (i + 1) []))) (.int ((ps.take (i + 1)).length : Int)))) := upd_same
    have a3 : (L2.upd H11 d (.dK (putK kvs (Sum.inr (SX.S (ps.getD (i + 1) []))) (.int ((ps.take (i + 1)).length : Int))))) sl = some (.lst (((List.range (i + 1)).map fun j => (fl ps j : Int)).map V.int)) := by
      rw [upd_ne nsd]
      exact e11 _ _ b3
    have ae : Ex H (L2.upd H11 d (.dK (putK kvs (Sum.inr (SX.S (ps.getD (i + 1) []))) (.int ((ps.take (i + 1)).length : Int))))) := (be.trans e11).mut hd0
    generalize L2.upd H11 d (.dK (putK kvs (Sum.inr (SX.S (ps.getD (i + 1) []))) (.int ((ps.take (i + 1)).length : Int)))) = G2 at a1 a2 a3 ae ⊢
    refine q_app a1 (ev_var rfl) (ev_var rfl) (by rw [List.length_map, hlen]; omega) fun H12 e12 => ?_
    refine s_asg (v := .int (fl ps (i + 1) : Int)) (ev_is (ev_add (ev_var rfl) (ev_lenS (l := ps.getD (i + 1) []) (by omega) (ev_var rfl))) (by rw [fst i (by omega), Int.natCast_add])) fun H13 e13 => ⟨⟨_, _, _, rfl⟩, ((ae.trans e12).mut hl0).trans e13, ?_, ⟨_, e13 _ _ (by rw [upd_ne nld.symm]; exact e12 _ _ a2), ?_⟩, e13 _ _ (by rw [upd_ne nls.symm]; exact e12 _ _ a3)⟩
    · refine e13 _ _ ?_
      rw [upd_same, gsn i hi, List.map_append]
      rfl
    · rw [gsn i hi]
      exact dk.put hnew
  · intro σ' H' z
    rw [g3.len] at z
    obtain ⟨⟨u7, u8, u9, rfl⟩, e5, m1, ⟨kvs, m2, dk⟩, m3⟩ := z
    have all : ps.take (rs.length + 1) = ps := by rw [← hpl, List.take_length]
    rw [all] at m1 dk
    have nls : l ≠ sl := fun z => by
      rw [z, m3] at m1
      have e := HO.lst.inj (Option.some.inj m1)
      have e2 := congrArg List.length e
      rw [List.length_map, List.length_map, List.length_map, List.length_range] at e2
      omega
    have nsd : sl ≠ d := ne_of m3 m2 (by intro z; cases z)
    refine q_app m3 (ev_var rfl) (ev_var rfl) (by rw [List.length_map, List.length_map, List.length_range]; omega) fun H6 e6 => ?_
    have b1 : (L2.upd H6 sl (.lst (((List.range rs.length).map fun j => (fl ps j : Int)).map V.int ++ [.int (fl ps rs.length : Int)]))) l = some (.lst (ps.map tx)) := by
      rw [upd_ne nls]
      exact e6 _ _ m1
    have b2 : (L2.upd H6 sl (.lst (((List.range rs.length).map fun j => (fl ps j : Int)).map V.int ++ [.int (fl ps rs.length : Int)]))) d = some (.dK kvs) := by
      rw [upd_ne nsd.symm]
      exact e6 _ _ m2
    have b3 : (L2.upd H6 sl (.lst (((List.range rs.length).map fun j => (fl ps j : Int)).map V.int ++ [.int (fl ps rs.length : Int)]))) sl = some (.lst (((List.range ps.length).map fun j => (fl ps j : Int)).map V.int)) := by
      rw [upd_same, hpl, List.range_succ, List.map_append, List.map_append]
      rfl
    have be : Ex H (L2.upd H6 sl (.lst (((List.range rs.length).map fun j => (fl ps j : Int)).map V.int ++ [.int (fl ps rs.length : Int)]))) := (e5.trans e6).mut hs0
    generalize L2.upd H6 sl (.lst (((List.range rs.length).map fun j => (fl ps j : Int)).map V.int ++ [.int (fl ps rs.length : Int)])) = G at b1 b2 b3 be ⊢
    have fln := hfl rs.length (Nat.le_refl _)
    have hdl := congrArg List.length at_end
    rw [List.length_drop] at hdl
    have hcnt : ((v.length : Int) - (fl ps rs.length : Int)) + 1 = (((ps.getD t []).length + 1 : Nat) : Int) := by omega
    refine q_forR1 (n := (((ps.getD t []).length + 1 : Nat) : Int)) (ea_cons (ev_is (ev_add (ev_sub (ev_lenS (by omega) (ev_var rfl)) (ev_var rfl)) ev_c) (by rw [hcnt])) ea_nil) ⟨by omega, by omega⟩ (fun k σ' H2 => (∃ u9, σ' = [some (.ref p), some (tx al), some (tx v), some (.ref l), some (.ref d), some (.ref sl), some (.int (fl ps rs.length : Int)), u7, u8, u9]) ∧ Ex G H2) (fun H8 e8 => ⟨⟨_, rfl⟩, e8⟩) ?_ ?_
    · intro k σ' H8 hk z
      obtain ⟨⟨u, rfl⟩, e8⟩ := z
      have hk : k ≤ (ps.getD t []).length := by omega
      obtain ⟨j, hj, _, ej⟩ := pre t low k hk
      have hm : ps.getD j [] ∈ ps := getD_mem (by omega)
      have hval := dk.there _ hm
      have ew : (v.drop (fl ps rs.length)).take k = ps.getD j [] := by rw [at_end, ej]
      refine s_when (b := false) (et_is (et_dnin (o := valV kvs (Sum.inr (SX.S (ps.getD j [])))) (ev_is (ev_slS (hi := some ((fl ps rs.length + k : Nat) : Int)) (by omega) (ev_var rfl) (eo_some (ev_var rfl)) (eo_some (ev_is (ev_add (ev_var rfl) (ev_var rfl)) (by rw [Int.natCast_add])))) (by rw [cutL_both, ew] <;> rfl)) (ev_var rfl) fun H9 e9 => DGet.k (k := Sum.inr (SX.S (ps.getD j []))) (e9 _ _ (e8 _ _ b2))) (by rw [hval]; rfl)) (fun z => by cases z) fun _ H9 e9 => ⟨⟨_, rfl⟩, e8.trans e9⟩
    intro σ' H8 z
    obtain ⟨⟨u, rfl⟩, e8⟩ := z
    have e08 := be.trans e8
    have htm : ps.getD t [] ∈ ps := getD_mem (by omega)
    have hval := dk.there _ htm
    rw [gidx] at hval
    refine q_skip (et_is (et_or (et_neI (ev_fld (ev_var rfl) (e08 _ _ g1) cl T.n_Cut_tail fs_tail) (ev_dget (v := .int (t : Int)) (ev_var rfl) (ev_is (ev_slS (by omega) (ev_var rfl) (eo_some (ev_var rfl)) eo_none) (by rw [cutL_from, at_end] <;> rfl)) fun H9 e9 => by
        have g := DGet.k (k := Sum.inr (SX.S (ps.getD t []))) (e9 _ _ (e8 _ _ b2))
        rw [hval] at g
        exact g)) fun _ => et_neI (ev_fld (ev_var rfl) (e08 _ _ g1) cl T.n_Cut_many fs_many) (ev_sub (ev_cb (ea_cons (ev_var rfl) ea_nil) (rc_lenL (sq_of (e8 _ _ b1)))) ev_c)) (by
      rw [List.length_map, hpl, decide_eq_true rfl, decide_eq_true (show ((rs.length : Nat) : Int) = ((rs.length + 1 : Nat) : Int) - 1 by omega)]
      rfl)) fun H9 e9 => ?_
    have e89 := e8.trans e9
    have e09 := be.trans e89
    exact s_ret (ev_is (ev_andV (a := true) (b := true) (ev_opU (ev_fld (ev_var rfl) (e09 _ _ g1) cl T.n_Cut_pieces fs_pieces) (eu_tupOf (ev_var rfl) (sq_of (e89 _ _ b1))) fun q0 H10 e10 k10 => rv_eqTxs hps (e10 _ _ (e09 _ _ g4)) k10) fun _ => ev_opU (ev_fld (ev_var rfl) (e09 _ _ g1) cl T.n_Cut_starts fs_starts) (eu_tupOf (ev_var rfl) (sq_of (e89 _ _ b3))) fun q0 H10 e10 k10 => rv_eqTis (e10 _ _ (e09 _ _ g5)) k10) rfl) fun H10 e10 => q H10 (e09.trans e10)
theorem sv_is {p : Addr} {al v : List Nat} {H : Hp} (hA : Alf al) (hv : ∀ c ∈ v, c ∈ al) (hz : v.length ≤ 1000) (h : CutAt C_Cut H p al (cutW v).1 (cutW v).2) : SpV (spIs C_Cut) ([.ref p, tx al, tx v] ++ []) H (.bl true) := fun _ e _ q _ => ⟨p, al, v, rfl, hA, hv, hz, h.mono e, q⟩
end
end Ver
namespace Ver
open PySem PySem.Spec PyProof.Rows L2 Evl
/-! ### the law's own call: callerA has no guard under way -/
section
variable {P : Program} {w : World} {K : PySem.W.Frag} {mg mb : Str → Option Value} {k : Nat} {fa a : Addr} {fd : FuncData} {x : Str} {sp : Sp} {s1 : Shared} {vs : List Value} {ns : List Int}
/-- out of an abstract heap that tracks the script at most -/
theorem law_fromG (KX : K.In s1.heap) (hns : s1.heap.Ns mainGlobals mg) (hb : s1.heap.Ns builtinsNs mb) (hbb : ∀ y : Str, y ≠ "__name__" → mb y = bootBuiltins y) (lim : s1.heap.NoLimit) (gs : s1.gens = #[])
    (ha : s1.heap.get? a = some { cls := .type "list", data := .seq vs.toArray }) (room : Room k callerA)
    (F : ∀ bs : Heap, K.In bs → bs.Ns mainGlobals mg → FnG P w K mg bs CX0 k fa fd [x] sp) (bind : ∀ (s : Shared) (u : Value), BindsTo s fd ⟨[u], []⟩ [(x, u)])
    (H : Hp) (only : L2.Only H) (said : sp [.ref a] H (fun v _ => v = .bl true) fun _ _ _ => False) (hok : HOk P w H s1.heap) (one : ∀ b, H b ≠ none → b = a) (own : H a ≠ none → K.lookup a = none) :
    codeAny (model P w) callerA (.call (.ref fa) ⟨[.ref a], []⟩) (fun r s' => r = .ok (.ret (.bool true)) ∧ OldK s1.heap s'.heap ∧ s'.os = s1.os ∧ AllBare s'.gens) s1 := by
  have free : ∀ b, b ≠ a → H b = none := fun b hb => Classical.byContradiction fun z => hb (one b z)
  have kept : ∀ {b : Addr} {m : Str → Option Value}, s1.heap.Ns b m → (hidT s1.heap H).Ns b m := by
    rintro b m ⟨o, es, ep, h1, h2, h3⟩
    refine ⟨o, es, ep, hidT_get h1 (free b fun z => ?_), h2, h3⟩
    subst z
    rw [ha] at h1
    cases h1
    cases (show Data.seq vs.toArray _ = Data.dict es ep from h2)
  have inB : K.In (hidT s1.heap H) := fun b o e => by
    refine hidT_get (KX b o e) (Classical.byContradiction fun z => ?_)
    have hba := one b z
    subst hba
    rw [own z] at e
    cases e
  have md : Mod K mg (hidT s1.heap H) := by
    obtain ⟨mc, l1, l2⟩ := lim
    exact ⟨inB, kept hns, ⟨mb, kept hb, hbb⟩, mc, kept l1, l2⟩
  have env : Env0 P w K mg (hidT s1.heap H) callerA [] s1 H := by
    refine ⟨rfl, md, fun b o z => of_hidT z, Nat.le_of_eq (hidT_size _ _), trivial, fun b z => ?_, hok, .of_eq gs⟩
    exact absurd (show b ∈ ([] : List Addr) from z) List.not_mem_nil
  have run := (F _ inB (kept hns)).runs callerA [] s1 H ⟨[.ref a], []⟩ [.ref a] [.ref a] _ _ rfl room env (bind s1 (.ref a)) (.cons rfl .nil) said
  refine codeAny_mono run ?_
  intro r s' h
  match r, h with
  | .error e, h => exact h.elim
  | .ok (.ret u), h =>
    obtain ⟨v, H', os, bare, un, ok2, rv, hv⟩ := h
    have hv : v = .bl true := hv
    subst hv
    obtain rfl : u = Value.bool true := rv
    refine ⟨rfl, OldK.of_keep fun b o z => ?_, os, bare⟩
    by_cases c : H b = none
    · exact un.keep b o z c (fun y => absurd (show b ∈ ([] : List Addr) from y) List.not_mem_nil) List.not_mem_nil
    · rcases only b with y | ⟨ob, xs, y⟩
      · exact absurd y c
      · have y2 := un.frzs b ob _ y
        have f1 := (hok b _ y).1
        have f2 := (ok2 b _ y2).1
        rw [z] at f1
        cases f1
        exact f2
theorem law_goG (KX : K.In s1.heap) (hns : s1.heap.Ns mainGlobals mg) (hb : s1.heap.Ns builtinsNs mb) (hbb : ∀ y : Str, y ≠ "__name__" → mb y = bootBuiltins y) (lim : s1.heap.NoLimit) (gs : s1.gens = #[])
    (ha : s1.heap.get? a = some { cls := .type "list", data := .seq vs.toArray }) (hints : IntsAre vs ns) (hl : ns.length ≤ sizeLine) (room : Room k callerA)
    (F : ∀ bs : Heap, K.In bs → bs.Ns mainGlobals mg → FnG P w K mg bs CX0 k fa fd [x] sp) (bind : ∀ (s : Shared) (u : Value), BindsTo s fd ⟨[u], []⟩ [(x, u)])
    (said : ∀ H : Hp, L2.Only H → SqL K H a (ns.map V.int) → sp [.ref a] H (fun v _ => v = .bl true) fun _ _ _ => False) :
    codeAny (model P w) callerA (.call (.ref fa) ⟨[.ref a], []⟩) (fun r s' => r = .ok (.ret (.bool true)) ∧ OldK s1.heap s'.heap ∧ s'.os = s1.os ∧ AllBare s'.gens) s1 := by
  have rv := L2.vals_ints hints
  have len := hints.length
  by_cases c : K.lookup a = none
  · let o : Obj := { cls := .type "list", data := .seq vs.toArray }
    let H : Hp := fun b => if b = a then some (.frz o (.lst (ns.map V.int))) else none
    have at_ : H a = some (.frz o (.lst (ns.map V.int))) := if_pos rfl
    have no_ : ∀ b, b ≠ a → H b = none := fun b z => if_neg z
    have only : L2.Only H := fun b => by
      by_cases z : b = a
      · subst z
        exact .inr ⟨_, _, at_⟩
      · exact .inl (no_ b z)
    refine law_fromG KX hns hb hbb lim gs ha room F bind H only (said H only (.inl (.inr ⟨o, at_⟩))) (fun b u z => ?_) (fun b z => Classical.byContradiction fun y => z (no_ b y)) fun _ => c
    by_cases y : b = a
    · subst y
      rw [at_] at z
      cases z
      exact ⟨ha, by rw [List.length_map]; exact hl, vs, _, rv, ha⟩
    · rw [no_ b y] at z
      cases z
  · obtain ⟨o, ho⟩ := Option.ne_none_iff_exists'.mp c
    have z := KX a o ho
    rw [ha] at z
    cases z
    refine law_fromG KX hns hb hbb lim gs ha room F bind (fun _ => none) (fun _ => .inl rfl) (said _ (fun _ => .inl rfl) ?_) (fun b u z => by cases z) (fun b z => absurd rfl z) fun z => absurd rfl z
    exact .inr ⟨_, vs.toArray, _, ho, rfl, rfl, rfl, by rw [List.size_toArray, len]; exact hl, by simpa using rv⟩
end
/-- the end, from the law's promise where no guard is under way -/
theorem walkG {l : PySem.W.OpenLaw} {n k : Nat} {q : Program} {loose : List Str} {XP : (Str → Option Value) → Heap → Prop} {YP : World → Heap → Prop} {d : DefRec} {K : Params → PySem.W.Frag} {sp : World → Sp} {x : Str}
    (most : l.most = some n) (hn : n ≤ sizeLine) (nodef : d.params.defaults = []) (room : Room k callerA) (inK : ∀ (w : World) (h : Heap), YP w h → (K w.params).In h)
    (F : ∀ (w : World) (mg : Str → Option Value) (fa : Addr) (h : Heap), (K w.params).In h → h.Ns mainGlobals mg → mg d.name = some (.ref fa) →
      ∃ fd : FuncData, (∀ (s : Shared) (u : Value), BindsTo s fd ⟨[u], []⟩ [(x, u)]) ∧ ∀ bs : Heap, (K w.params).In bs → bs.Ns mainGlobals mg → FnG l.prog w (K w.params) mg bs CX0 k fa fd [x] (sp w))
    (said : ∀ (w : World) (H : Hp) (a : Addr) (ns : List Int), ns.length ≤ n → L2.Only H → SqL (K w.params) H a (ns.map V.int) → sp w [.ref a] H (fun v _ => v = .bl true) fun _ _ _ => False) :
    PySem.W.WalkO q loose XP YP l.row.toRowW d [] (fun f vs => PySem.call f vs) := by
  refine Att.attach_call most nodef ?_
  intro w s0 s1 mg mb fa o pm cd doc a vs ns G Y ho hd hcd hmg hobj hints hlen hg
  obtain ⟨fd, hb, hF⟩ := F w mg fa _ (inK w _ Y) G.T.g hmg
  exact law_goG (inK w _ Y) G.T.g G.T.b G.T.builtins G.T.nolimit hg hobj hints (Nat.le_trans hlen hn) room hF hb fun H hO hS => said w H a ns hlen hO hS
end Ver
namespace Ver
open PySem PySem.Spec PyProof.Rows L2 Evl
/-! ### repr of lists of ints -/
def shw (ns : List Int) : Str := (PyData.list (ns.map .int)).shown
theorem nodict_ints : ∀ ns : List Int, PyData.hasDictAll (ns.map PyData.int) = false
  | [] => rfl
  | n :: r => by
    show (false || PyData.hasDictAll (r.map PyData.int)) = false
    rw [nodict_ints r]
    rfl
theorem show_ints : ∀ ns : List Int, (∀ n ∈ ns, n.natAbs.log2 < 1920) → PyData.showableAll (ns.map PyData.int) = true
  | [], _ => rfl
  | n :: r, h => by
    show (decide (n.natAbs.log2 < 1920) && PyData.showableAll (r.map PyData.int)) = true
    rw [decide_eq_true (h n List.mem_cons_self), show_ints r fun m hm => h m (List.mem_cons_of_mem _ hm)]
    rfl
theorem log_small {n : Int} (h : n.natAbs < 10 ^ 50) : n.natAbs.log2 < 1920 := by
  by_cases c : n.natAbs = 0
  · rw [c]
    decide
  · refine (Nat.log2_lt c).mpr ?_
    have : (10 : Nat) ^ 50 < 2 ^ 1920 := by decide +kernel
    omega
theorem short_ints : ∀ ns : List Int, (∀ n ∈ ns, n.natAbs < 10 ^ 50) → PyData.leavesShortAll 60 (ns.map PyData.int) = true
  | [], _ => rfl
  | n :: r, h => by
    show (decide ((PyData.shown (.int n)).length ≤ 60) && PyData.leavesShortAll 60 (r.map PyData.int)) = true
    have h1 : (PyData.shown (.int n)).length ≤ 60 := by
      have e := int_text_length_le10 (k := 50) (by decide) (h n List.mem_cons_self)
      show (Str.ofString (toString n)).length ≤ 60
      rw [PySem.ofString_length]
      omega
    rw [decide_eq_true h1, short_ints r fun m hm => h m (List.mem_cons_of_mem _ hm)]
    rfl
theorem weigh_ints : ∀ ns : List Int, (∀ n ∈ ns, n.natAbs < 10 ^ 50) → PyData.weightAll (ns.map PyData.int) ≤ 170 * ns.length
  | [], _ => by simp [PyData.weightAll]
  | n :: r, h => by
    have ih := weigh_ints r fun m hm => h m (List.mem_cons_of_mem _ hm)
    have h1 : (if n == 0 then 0 else n.natAbs.log2 + 1) ≤ 168 := by
      split
      · omega
      · rename_i c
        have hn : n.natAbs ≠ 0 := fun z => c (by rw [Int.natAbs_eq_zero.mp z]; rfl)
        have : n.natAbs.log2 < 167 := (Nat.log2_lt hn).mpr (Nat.lt_trans (h n List.mem_cons_self) (by decide +kernel))
        omega
    simp only [List.map_cons, PyData.weightAll, PyData.weight, List.length_cons]
    omega
section
variable {K : PySem.W.Frag} {σ : L2.St} {H : Hp} {tl : TE}
abbrev rReprD (K : PySem.W.Frag) : List V → Hp → VK → Prop := fun xs H Q => ∃ (a : Addr) (d : PyData), xs = [.ref a] ∧ Dp K H (.ref a) d ∧ d.showable = true ∧ d.hasDict = false ∧ d.depth ≤ 20 ∧ d.shown.length ≤ sizeLine ∧ Q (.str d.shown) H
theorem repr_ok {p : Addr} {ns : List Int} {Q : VK} (hs : SqL K H p (ns.map V.int)) (hn : ∀ n ∈ ns, n.natAbs < 10 ^ 50) (hl : ns.length ≤ 1000) (q : Q (.str (shw ns)) H) : rReprD K [.ref p] H Q := by
  refine ⟨p, .list (ns.map .int), rfl, .lst hs (dp_ints ns), ?_, ?_, ?_, ?_, q⟩
  · simpa only [PyData.showable] using show_ints ns fun n hm => log_small (hn n hm)
  · simpa only [PyData.hasDict] using nodict_ints ns
  · simp only [PyData.depth, deep_ints ns]
    omega
  · have h := PyData.shown_le 60 (by decide) (.list (ns.map .int)) (by simpa only [PyData.leavesShort] using short_ints ns hn)
    have hw := weigh_ints ns hn
    have h2 : (60 + 2) * (PyData.list (ns.map .int)).weight ≤ 62 * (170 * ns.length) := Nat.mul_le_mul_left _ (by
      simp only [PyData.weight]
      omega)
    refine Nat.le_trans h (Nat.le_trans ?_ (show 11000000 ≤ sizeLine by decide))
    omega
theorem ev_reprN {ns : List Int} (h : EvL tl σ H (ns.map V.int)) (hn : ∀ n ∈ ns, n.natAbs < 10 ^ 50) (hl : ns.length ≤ 1000) : Ev (tCB (rReprD K) (tCons tl tNil)) σ H (.str (shw ns)) := fun H1 e Q q =>
  h H1 e _ fun p H2 _ e2 g2 => repr_ok (sq_of g2) hn hl (q H2 e2)
end
end Ver
namespace Ver
open PySem PySem.Spec PyProof.Rows L2 Evl
/-! ### repr of three texts and a number -/
def pd4 (a b c : List Nat) (n : Int) : PyData := .list [.str (SX.S a), .str (SX.S b), .str (SX.S c), .int n]
theorem short_tx {s : List Nat} (h : ∀ c ∈ s, c < 1114112) : PyData.leavesShort 60 (.str (SX.S s)) = true := by
  show (SX.S s).cps.toList.all (fun c => decide (c < 16 ^ 8)) = true
  rw [List.all_eq_true]
  intro c hc
  have hc' : c ∈ s := by simpa [SX.S] using hc
  have := h c hc'
  exact decide_eq_true (by omega)
theorem repr4_ok {K : PySem.W.Frag} {H : Hp} {p : Addr} {a b c : List Nat} {n : Int} {Q : VK} (hs : SqL K H p [tx a, tx b, tx c, .int n]) (ha : ∀ x ∈ a, x < 1114112) (hb : ∀ x ∈ b, x < 1114112) (hc : ∀ x ∈ c, x < 1114112) (la : a.length ≤ 1000) (lb : b.length ≤ 1000) (lc : c.length ≤ 1000) (hn : n.natAbs < 10 ^ 50) (q : Q (.str (pd4 a b c n).shown) H) : rReprD K [.ref p] H Q := by
  have h1 : n.natAbs.log2 < 1920 := log_small hn
  have h2 : (PyData.shown (.int n)).length ≤ 60 := by
    have e := int_text_length_le10 (k := 50) (by decide) hn
    show (Str.ofString (toString n)).length ≤ 60
    rw [PySem.ofString_length]
    omega
  have h3 : (if n == 0 then 0 else n.natAbs.log2 + 1) ≤ 168 := by
    split
    · omega
    · rename_i c
      have hz : n.natAbs ≠ 0 := fun z => c (by rw [Int.natAbs_eq_zero.mp z]; rfl)
      have : n.natAbs.log2 < 167 := (Nat.log2_lt hz).mpr (Nat.lt_trans hn (by decide +kernel))
      omega
  refine ⟨p, pd4 a b c n, rfl, .lst hs (.cons (.str _) (.cons (.str _) (.cons (.str _) (.cons (.int _) .nil)))), ?_, ?_, ?_, ?_, q⟩
  · simp [pd4, PyData.showable, PyData.showableAll, h1]
  · simp [pd4, PyData.hasDict, PyData.hasDictAll]
  · simp [pd4, PyData.depth, PyData.depthAll]
  · have h := PyData.shown_le 60 (by decide) (pd4 a b c n) (by
      show (PyData.leavesShort 60 _ && (PyData.leavesShort 60 _ && (PyData.leavesShort 60 _ && (PyData.leavesShort 60 _ && true)))) = true
      rw [short_tx ha, short_tx hb, short_tx hc]
      show (true && (true && (true && (decide ((PyData.shown (.int n)).length ≤ 60) && true)))) = true
      rw [decide_eq_true h2]
      rfl)
    have hw : (pd4 a b c n).weight ≤ 10000 := by
      have sa : (SX.S a).cps.size = a.length := by simp [SX.S]
      have sb : (SX.S b).cps.size = b.length := by simp [SX.S]
      have sc : (SX.S c).cps.size = c.length := by simp [SX.S]
      simp only [pd4, PyData.weight, PyData.weightAll, Str.length, sa, sb, sc]
      omega
    have h5 : (60 + 2) * (pd4 a b c n).weight ≤ 62 * 10000 := Nat.mul_le_mul_left _ hw
    refine Nat.le_trans h (Nat.le_trans ?_ (show 11000000 ≤ sizeLine by decide))
    omega
theorem ev_repr4G {K : PySem.W.Frag} {σ : L2.St} {H : Hp} {tl : TE} {a b c : List Nat} {n : Int} (h : EvL tl σ H [tx a, tx b, tx c, .int n]) (ha : ∀ x ∈ a, x < 1114112) (hb : ∀ x ∈ b, x < 1114112) (hc : ∀ x ∈ c, x < 1114112) (la : a.length ≤ 1000) (lb : b.length ≤ 1000) (lc : c.length ≤ 1000) (hn : n.natAbs < 10 ^ 50) : Ev (tCB (rReprD K) (tCons tl tNil)) σ H (.str (pd4 a b c n).shown) := fun H1 e Q q =>
  h H1 e _ fun p H2 _ e2 g2 => repr4_ok (sq_of g2) ha hb hc la lb lc hn (q H2 e2)
theorem ev_repr4 {K : PySem.W.Frag} {σ : L2.St} {H : Hp} {t1 t2 t3 t4 : TE} {a b c : List Nat} {n : Int} (h1 : Ev t1 σ H (tx a)) (h2 : Ev t2 σ H (tx b)) (h3 : Ev t3 σ H (tx c)) (h4 : Ev t4 σ H (.int n)) (ha : ∀ x ∈ a, x < 1114112) (hb : ∀ x ∈ b, x < 1114112) (hc : ∀ x ∈ c, x < 1114112) (la : a.length ≤ 1000) (lb : b.length ≤ 1000) (lc : c.length ≤ 1000) (hn : n.natAbs < 10 ^ 50) :
    Ev (tCB (rReprD K) (tCons (tLst (tCons t1 (tCons t2 (tCons t3 (tCons t4 tNil))))) tNil)) σ H (.str (pd4 a b c n).shown) := by
  exact ev_repr4G (el_lst (ea_cons h1 (ea_cons h2 (ea_cons h3 (ea_cons h4 ea_nil)))) (by show 4 ≤ 100000; decide)) ha hb hc la lb lc hn
end Ver
namespace Ver
open PySem PySem.Spec PyProof.Rows L2 Evl
/-! ### repr of nested data: what is asked of it -/
structure Gd (d : PyData) (k n : Nat) : Prop where
  shw : d.showable = true
  nod : d.hasDict = false
  sho : d.leavesShort 60 = true
  dep : d.depth ≤ k
  wei : d.weight ≤ n
structure GdAll (ds : List PyData) (k n : Nat) : Prop where
  shw : PyData.showableAll ds = true
  nod : PyData.hasDictAll ds = false
  sho : PyData.leavesShortAll 60 ds = true
  dep : PyData.depthAll ds ≤ k
  wei : PyData.weightAll ds ≤ n
theorem gd_int {i : Int} (h : i.natAbs < 2 ^ 40) : Gd (.int i) 0 41 := by
  have h10 : i.natAbs < 10 ^ 50 := Nat.lt_trans h (by decide +kernel)
  refine ⟨?_, by simp [PyData.hasDict], ?_, by simp [PyData.depth], ?_⟩
  · simp [PyData.showable, log_small h10]
  · refine decide_eq_true ?_
    have e := int_text_length_le10 (k := 50) (by decide) h10
    show (Str.ofString (toString i)).length ≤ 60
    rw [PySem.ofString_length]
    omega
  · rw [PyData.weight]
    split
    · omega
    · rename_i c
      have hn : i.natAbs ≠ 0 := fun z => c (by rw [Int.natAbs_eq_zero.mp z]; rfl)
      have : i.natAbs.log2 < 40 := (Nat.log2_lt hn).mpr h
      omega
theorem gd_tx {s : List Nat} (h : ∀ c ∈ s, c < 1114112) : Gd (.str (SX.S s)) 0 s.length := by
  refine ⟨by simp [PyData.showable], by simp [PyData.hasDict], short_tx h, by simp [PyData.depth], ?_⟩
  have e : (SX.S s).cps.size = s.length := by simp [SX.S]
  rw [PyData.weight, e]
  exact Nat.le_refl _
theorem ga_nil {k : Nat} : GdAll [] k 0 := ⟨rfl, rfl, rfl, by simp [PyData.depthAll], by simp [PyData.weightAll]⟩
theorem ga_cons {d : PyData} {ds : List PyData} {k n m : Nat} (h : Gd d k n) (g : GdAll ds k m) : GdAll (d :: ds) k (n + 1 + m) := by
  refine ⟨?_, ?_, ?_, ?_, ?_⟩
  · rw [PyData.showableAll, h.shw, g.shw]
    rfl
  · rw [PyData.hasDictAll, h.nod, g.nod]
    rfl
  · rw [PyData.leavesShortAll, h.sho, g.sho]
    rfl
  · have a := h.dep
    have b := g.dep
    rw [PyData.depthAll]
    omega
  · have a := h.wei
    have b := g.wei
    rw [PyData.weightAll]
    omega
theorem Gd.up {d : PyData} {k n k' n' : Nat} (h : Gd d k n) (hk : k ≤ k') (hn : n ≤ n') : Gd d k' n' := ⟨h.shw, h.nod, h.sho, Nat.le_trans h.dep hk, Nat.le_trans h.wei hn⟩
theorem GdAll.up {d : List PyData} {k n k' n' : Nat} (h : GdAll d k n) (hk : k ≤ k') (hn : n ≤ n') : GdAll d k' n' := ⟨h.shw, h.nod, h.sho, Nat.le_trans h.dep hk, Nat.le_trans h.wei hn⟩
theorem gd_tup {ds : List PyData} {k n : Nat} (h : GdAll ds k n) : Gd (.tuple ds) (k + 1) n := by
  refine ⟨by rw [PyData.showable]; exact h.shw, by rw [PyData.hasDict]; exact h.nod, by rw [PyData.leavesShort]; exact h.sho, ?_, by rw [PyData.weight]; exact h.wei⟩
  have a := h.dep
  rw [PyData.depth]
  omega
theorem gd_lst {ds : List PyData} {k n : Nat} (h : GdAll ds k n) : Gd (.list ds) (k + 1) n := by
  refine ⟨by rw [PyData.showable]; exact h.shw, by rw [PyData.hasDict]; exact h.nod, by rw [PyData.leavesShort]; exact h.sho, ?_, by rw [PyData.weight]; exact h.wei⟩
  have a := h.dep
  rw [PyData.depth]
  omega
theorem ga_map {α : Type} {f : α → PyData} {k n : Nat} : ∀ l : List α, (∀ x ∈ l, Gd (f x) k n) → GdAll (l.map f) k (l.length * (n + 1))
  | [], _ => ga_nil.up (Nat.le_refl _) (Nat.zero_le _)
  | x :: l, h => (ga_cons (h x List.mem_cons_self) (ga_map l fun y hy => h y (List.mem_cons_of_mem _ hy))).up (Nat.le_refl _) (by
    rw [List.length_cons, Nat.succ_mul]
    omega)
theorem ga_txs : ∀ l : List (List Nat), (∀ s ∈ l, ∀ c ∈ s, c < 1114112) → GdAll (l.map fun s => PyData.str (SX.S s)) 0 (l.flatten.length + l.length)
  | [], _ => ga_nil
  | x :: l, h => (ga_cons (gd_tx (h x List.mem_cons_self)) (ga_txs l fun y hy => h y (List.mem_cons_of_mem _ hy))).up (Nat.le_refl _) (by
    rw [List.flatten_cons, List.length_append, List.length_cons]
    omega)
theorem rep_ok {K : PySem.W.Frag} {H : Hp} {p : Addr} {d : PyData} {n : Nat} {Q : VK} (g : Gd d 20 n) (hn : n ≤ 170000) (hd : Dp K H (.ref p) d) (q : Q (.str d.shown) H) : rReprD K [.ref p] H Q := by
  refine ⟨p, d, rfl, hd, g.shw, g.nod, g.dep, ?_, q⟩
  have h := PyData.shown_le 60 (by decide) d g.sho
  have h2 : (60 + 2) * d.weight ≤ 62 * 170000 := Nat.mul_le_mul_left _ (Nat.le_trans g.wei hn)
  refine Nat.le_trans h (Nat.le_trans ?_ (show 11000000 ≤ sizeLine by decide))
  omega
theorem ev_repU {K : PySem.W.Frag} {σ : L2.St} {H : Hp} {te : TE} {xs : List V} {d : PyData} {n : Nat} (h : EvU te σ H xs) (g : Gd d 20 n) (hn : n ≤ 170000) (hd : ∀ (p : Addr) (H1 : Hp), Ex H H1 → H1 p = some (.tup xs) → Dp K H1 (.ref p) d) : Ev (tCB (rReprD K) (tCons te tNil)) σ H (.str d.shown) := fun H1 e Q q =>
  h H1 e _ fun p H2 _ e2 g2 => rep_ok g hn (hd p H2 (e.trans e2) g2) (q H2 e2)
end Ver
namespace Ver
open PySem PySem.Spec PyProof.Rows L2 Evl
/-! ### _law_shown -/
def cutD (al : List Nat) (rs : Rw) (t : Nat) (v : List Nat) : PyData := .tuple [.str (SX.S al), .tuple (rs.map pd), .int (t : Int), .tuple ((pcs rs).map fun s => PyData.str (SX.S s)), .int (rs.length : Int), .str (SX.S v), .tuple ((sts (pcs rs)).map PyData.int)]
theorem gd_cut {al : List Nat} {rs : Rw} {t : Nat} {v : List Nat} (A : Alf al) (ok : RowsOk al rs) (ht : t ≤ rs.length) (hz : v.length ≤ 1000) (few : rs.length ≤ v.length) (word : v = (pcs rs).flatten ++ (pcs rs).getD t []) (hv : ∀ c ∈ v, c ∈ al) : Gd (cutD al rs t v) 20 170000 := by
  have h6 := A.six
  have hpl := pcs_len rs
  have hfl := congrArg List.length word
  rw [List.length_append] at hfl
  have hps : ∀ s ∈ pcs rs, ∀ c ∈ s, c < 1114112 := fun s hs c hc => A.uni (hv c (by
    rw [word]
    exact List.mem_append_left _ (List.mem_flatten.mpr ⟨s, hs, hc⟩)))
  have small : ∀ n : Nat, n ≤ 2000 → ((n : Int)).natAbs < 2 ^ 40 := fun n h => by
    have : (2 : Nat) ^ 40 = 1099511627776 := by decide
    omega
  have g1 : Gd (.str (SX.S al)) 2 6 := (gd_tx fun c hc => A.uni hc).up (by decide) h6
  have g2 : Gd (.tuple (rs.map pd)) 2 45000 := (gd_tup (ga_map (k := 1) (n := 44) rs fun r hr => by
    obtain ⟨i, hi, e⟩ := List.mem_iff_getElem.mp hr
    have hg : rs[i]? = some (r.1, r.2) := by rw [List.getElem?_eq_getElem hi, e]
    obtain ⟨l1, l2⟩ := ok.low i r.1 r.2 hg
    exact (gd_tup (ga_cons (gd_int (small r.1 (by omega))) (ga_cons (gd_tx (s := [r.2]) fun c hc => by rw [List.mem_singleton.mp hc]; exact A.uni l2) ga_nil))).up (by decide) (by show 41 + 1 + (1 + 1 + 0) ≤ 44; decide))).up (by decide) (by omega)
  have g3 : Gd (.int (t : Int)) 2 41 := (gd_int (small t (by omega))).up (by decide) (Nat.le_refl _)
  have g4 : Gd (.tuple ((pcs rs).map fun s => PyData.str (SX.S s))) 2 2001 := (gd_tup (ga_txs _ hps)).up (by decide) (by omega)
  have g5 : Gd (.int (rs.length : Int)) 2 41 := (gd_int (small rs.length (by omega))).up (by decide) (Nat.le_refl _)
  have g6 : Gd (.str (SX.S v)) 2 1000 := (gd_tx fun c hc => A.uni (hv c hc)).up (by decide) hz
  have hsl : (sts (pcs rs)).length = rs.length + 1 := by
    unfold sts
    rw [List.length_map, List.length_range, hpl]
  have g7 : Gd (.tuple ((sts (pcs rs)).map PyData.int)) 2 42042 := (gd_tup (ga_map (k := 0) (n := 41) _ fun i hi => by
    unfold sts at hi
    obtain ⟨j, _, rfl⟩ := List.mem_map.mp hi
    have h1 : (((pcs rs).drop 1).take j).flatten.length ≤ ((pcs rs).drop 1).flatten.length := flat_take _ _
    have h2 : ((pcs rs).drop 1).flatten.length ≤ (pcs rs).flatten.length := by
      conv => rhs; rw [← List.take_append_drop 1 (pcs rs), List.flatten_append, List.length_append]
      omega
    exact gd_int (small _ (by omega)))).up (by decide) (by rw [hsl]; omega)
  exact (gd_tup (ga_cons g1 (ga_cons g2 (ga_cons g3 (ga_cons g4 (ga_cons g5 (ga_cons g6 (ga_cons g7 ga_nil)))))))).up (by decide) (by decide)
def shC (al v : List Nat) : Str := (cutD al (cutW v).1 (cutW v).2 v).shown
section
variable {P : Program} {w : World} {K : PySem.W.Frag} {mg : Str → Option Value} {base : Heap} {C_Cut : Addr}
def spShown (C : Addr) : Sp := fun vs H Q _ => ∃ (p : Addr) (al v : List Nat), vs = [.ref p] ∧ Alf al ∧ (∀ c ∈ v, c ∈ al) ∧ v.length ≤ 1000 ∧ CutAt C H p al (cutW v).1 (cutW v).2 ∧ RetV (.str (shC al v)) H Q
theorem has_shown (F : At K mg "_law_shown" s__law_shown) (T : Top K mg C_Cut) : HasG P w K mg base "_law_shown" s__law_shown ["told"] 1 (spShown C_Cut) := by
  obtain ⟨f, fd, F, m⟩ := F.ex
  refine ⟨f, fd, F, okG F S__law_shown (fun vs H Q E h => ?_) (fun cdv A outer s H vs Q E g hr h => ?_), F.binds fun _ _ _ _ _ _ us hl => match us, hl with | [_], _ => rfl, m, F.kp⟩
  · obtain ⟨p, al, v, rfl, _⟩ := h
    rfl
  obtain ⟨p, al, v, rfl, hA, hv, hz, hC, q⟩ := h
  have ko := cut_ok (al := al) v hv
  unfold shC at q
  generalize cutW v = st at hC ko q
  obtain ⟨rs, t⟩ := st
  have hC : CutAt C_Cut H p al rs t := hC
  have word : v = (pcs rs).flatten ++ (pcs rs).getD t [] := ko.word
  obtain ⟨dx, ra, pa, sa, xs, g1, g2, g3, g4, g5⟩ := hC.ex
  rw [← word] at g1
  have cl := T.cl_Cut
  refine ⟨_, (pss_one
    (ps_ret (pe_callB (call_reprD g hr.units) rfl T.z_repr (by decide +kernel) (pa_cons (pe_tup (pa_cons (pe_fld (pv 0) rfl) (pa_cons (pe_fld (pv 0) rfl) (pa_cons (pe_fld (pv 0) rfl) (pa_cons (pe_fld (pv 0) rfl) (pa_cons (pe_fld (pv 0) rfl) (pa_cons (pe_fld (pv 0) rfl) (pa_cons (pe_fld (pv 0) rfl) pa_nil)))))))) pa_nil)))), ?_⟩
  refine s_ret (ev_repU (d := cutD al rs t v) (eu_tup (ea_cons (ev_fld (ev_var rfl) g1 cl T.n_Cut_alphabet fs_alphabet) (ea_cons (ev_fld (ev_var rfl) g1 cl T.n_Cut_rows fs_rows) (ea_cons (ev_fld (ev_var rfl) g1 cl T.n_Cut_tail fs_tail) (ea_cons (ev_fld (ev_var rfl) g1 cl T.n_Cut_pieces fs_pieces) (ea_cons (ev_fld (ev_var rfl) g1 cl T.n_Cut_many fs_many) (ea_cons (ev_fld (ev_var rfl) g1 cl T.n_Cut_text fs_text) (ea_cons (ev_fld (ev_var rfl) g1 cl T.n_Cut_starts fs_starts) ea_nil))))))) (by show 7 ≤ 100000; decide)) (gd_cut hA ko.ok ko.low hz ko.few word hv) (by decide) fun b H1 e1 k1 => ?_) q
  exact .tup (st_of k1) (.cons (.str _) (.cons (.tup (st_of (e1 _ _ g2)) (dp_rows _ _ (g3.mono e1))) (.cons (.int _) (.cons (.tup (st_of (e1 _ _ g4)) (dp_txs _)) (.cons (.int _) (.cons (.str _) (.cons (.tup (st_of (e1 _ _ g5)) (dp_ints _)) .nil)))))))
theorem sv_shown {p : Addr} {al v : List Nat} {H : Hp} (hA : Alf al) (hv : ∀ c ∈ v, c ∈ al) (hz : v.length ≤ 1000) (h : CutAt C_Cut H p al (cutW v).1 (cutW v).2) : SpV (spShown C_Cut) ([.ref p] ++ []) H (.str (shC al v)) := fun _ e _ q _ => ⟨p, al, v, rfl, hA, hv, hz, h.mono e, q⟩
end
end Ver
namespace Ver
open PySem PySem.Spec PyProof.Rows L2 Evl
section
variable {P : Program} {w : World} {K : PySem.W.Frag} {mg : Str → Option Value} {base : Heap} {C_PressError : Addr} {C_BadAlphabet : Addr} {C_BadLetter : Addr} {C_BadRow : Addr} {C_BadTail : Addr} {C_BadRank : Addr} {C_NotBits : Addr} {C_BadIndex : Addr} {C_BadStanding : Addr} {C_BadRule : Addr} {C_AlphabetsDiffer : Addr} {C_DoesNotComeBack : Addr} {C_TooLarge : Addr} {C_NotWritten : Addr} {C_NoSuchText : Addr} {C_BadName : Addr} {C_NameTaken : Addr} {C_NoName : Addr} {C_EmptyRing : Addr} {C_NotInLot : Addr} {C_BadBuild : Addr} {C_BadGrowth : Addr} {C_EmptyText : Addr} {C_NothingToUndo : Addr} {C_NothingToRedo : Addr}
abbrev fs_BadAlphabet : List V → List (Str × V) := fun us => [("alphabet", us.getD 0 .non)]
abbrev Er_BadAlphabet (P : Program) (w : World) (K : PySem.W.Frag) (mg : Str → Option Value) (base : Heap) (C : Addr) : Prop := ErrC P w K mg base "BadAlphabet" C 1 ["self", "alphabet"] fs_BadAlphabet
theorem he_BadAlphabet {fI : Addr} {fd : FuncData} (F : Fun K "__init__" "BadAlphabet.__init__" s_BadAlphabet___init__ fI fd) (o : OexC K C_BadAlphabet) (n0 : PySem.W.findIn K (.ref C_BadAlphabet) "alphabet" = some none) : FnOk P w K mg base CX0 1 fI fd ["self", "alphabet"] (spErr C_BadAlphabet 1 fs_BadAlphabet) := by
  refine F.ok S_BadAlphabet___init__ (fun vs H Q E h => ?_) (fun cdv A outer s H vs Q E hr h => ?_)
  · obtain ⟨a, us, rfl, hl, _⟩ := h
    show us.length + 1 = 2
    omega
  obtain ⟨a, us, rfl, hl, h1, h2⟩ := h
  match us, hl with
  | [u0], _ =>
  refine ⟨_, (pss_one
    (ps_ost (pv 0) (pv 1))), ?_⟩
  refine ⟨_, rfl, _, rfl, a, C_BadAlphabet, rfl, o, n0, .inl ⟨h1, fun dx hd ne => h2 dx _ hd ne upd_same (by rw [upd_ne ne]; exact upd_same) fun b b1 b2 => by rw [upd_ne b1, upd_ne b2]⟩⟩
abbrev fs_BadLetter : List V → List (Str × V) := fun us => [("index", us.getD 0 .non)]
abbrev Er_BadLetter (P : Program) (w : World) (K : PySem.W.Frag) (mg : Str → Option Value) (base : Heap) (C : Addr) : Prop := ErrC P w K mg base "BadLetter" C 1 ["self", "index"] fs_BadLetter
theorem he_BadLetter {fI : Addr} {fd : FuncData} (F : Fun K "__init__" "BadLetter.__init__" s_BadLetter___init__ fI fd) (o : OexC K C_BadLetter) (n0 : PySem.W.findIn K (.ref C_BadLetter) "index" = some none) : FnOk P w K mg base CX0 1 fI fd ["self", "index"] (spErr C_BadLetter 1 fs_BadLetter) := by
  refine F.ok S_BadLetter___init__ (fun vs H Q E h => ?_) (fun cdv A outer s H vs Q E hr h => ?_)
  · obtain ⟨a, us, rfl, hl, _⟩ := h
    show us.length + 1 = 2
    omega
  obtain ⟨a, us, rfl, hl, h1, h2⟩ := h
  match us, hl with
  | [u0], _ =>
  refine ⟨_, (pss_one
    (ps_ost (pv 0) (pv 1))), ?_⟩
  refine ⟨_, rfl, _, rfl, a, C_BadLetter, rfl, o, n0, .inl ⟨h1, fun dx hd ne => h2 dx _ hd ne upd_same (by rw [upd_ne ne]; exact upd_same) fun b b1 b2 => by rw [upd_ne b1, upd_ne b2]⟩⟩
end
end Ver
namespace Ver
open PySem PySem.Spec PyProof.Rows L2 Evl
theorem lets_let {c : Nat} (h : c ∈ lets) : (48 ≤ c ∧ c ≤ 57) ∨ (97 ≤ c ∧ c ≤ 122) := by
  have k : ∀ d ∈ lets, (48 ≤ d ∧ d ≤ 57) ∨ (97 ≤ d ∧ d ≤ 122) := by decide +kernel
  exact k c h
section
variable {P : Program} {w : World} {K : PySem.W.Frag} {mg : Str → Option Value} {base : Heap} {C_Cut : Addr} {C_PressError : Addr} {C_BadAlphabet : Addr} {C_BadLetter : Addr} {C_BadRow : Addr} {C_BadTail : Addr} {C_BadRank : Addr} {C_NotBits : Addr} {C_BadIndex : Addr} {C_BadStanding : Addr} {C_BadRule : Addr} {C_AlphabetsDiffer : Addr} {C_DoesNotComeBack : Addr} {C_TooLarge : Addr} {C_NotWritten : Addr} {C_NoSuchText : Addr} {C_BadName : Addr} {C_NameTaken : Addr} {C_NoName : Addr} {C_EmptyRing : Addr} {C_NotInLot : Addr} {C_BadBuild : Addr} {C_BadGrowth : Addr} {C_EmptyText : Addr} {C_NothingToUndo : Addr} {C_NothingToRedo : Addr}
/-! ### what is no alphabet -/
def spIsAlB : Sp := fun vs H Q _ => ∃ al : List Nat, vs = [tx al] ∧ ¬ Alf al ∧ al.length ≤ 40000 ∧ RetV (.bl false) H Q
theorem has_isalB (F : At K mg "is_alphabet" s_is_alphabet) (T : Top K mg C_Cut) : Has P w K mg base "is_alphabet" s_is_alphabet ["string"] 1 spIsAlB := by
  obtain ⟨f, fd, F, m⟩ := F.ex
  obtain ⟨tL, g_LETTERS⟩ := T.g_LETTERS
  obtain ⟨tM, g_MOST_LETTERS⟩ := T.g_MOST_LETTERS
  refine ⟨f, fd, F, F.ok S_is_alphabet (fun vs H Q E h => ?_) (fun cdv A outer s H vs Q E hr h => ?_), F.binds fun _ _ _ _ _ _ us hl => match us, hl with | [_], _ => rfl, m, F.kp⟩
  · obtain ⟨al, rfl, _⟩ := h
    rfl
  obtain ⟨al, rfl, hA, hz, q⟩ := h
  refine ⟨_, (pss_cons
    (ps_if (PW.pt (pw_or (pt_cmpR op_lt (pe_callB call_len_str rfl T.z_len PySem.boot_len (pa_cons (pv 0) pa_nil)) pe_int (nomark _)) (pw_or1 (pt_cmpR op_gt (pe_callB call_len_str rfl T.z_len PySem.boot_len (pa_cons (pv 0) pa_nil)) (pe_glob (v := .int 6) rfl g_MOST_LETTERS ⟨_, rfl⟩) (nomark _))))) (pss_one
    (ps_ret pe_bl)) pss_nil)
    (pss_cons
    (ps_if (pt_cmpR op_ne (pe_bm PySem.F.plainAttrs_str PySem.F.slot_str_strip PySem.F.type_str_strip mt_stripChars (pv 0) (pa_cons (pe_glob (v := .str (Str.ofString "0123456789abcdefghijklmnopqrstuvwxyz")) rfl g_LETTERS ⟨_, rfl⟩) pa_nil)) pe_str (nomark _)) (pss_one
    (ps_ret pe_bl)) pss_nil)
    (pss_one
    (ps_ret (pe_callB (cr_all rfl) rfl T.z_all (by decide +kernel) (pa_cons (pe_lc (own := [("one", 1), ("two", 2)]) (g := gTup K 2 (gCons (gName 1) (gCons (gName 2) gNil))) (tt := tYes) rfl S_is_alphabet.nd (pi_zipS rfl T.z_zip (pa_cons (pv 0) (pa_cons (pe_slice sl_str (pv 0) (po_some pe_int) po_none) pa_nil))) (blkOk_by (N := N_is_alphabet) (sc := defScope s_is_alphabet) (by decide +kernel)) (fun _ _ _ _ _ => pg_tup rfl (pgs_cons (pg_name (i := 1) S_is_alphabet.nd rfl (Or.inl rfl)) (pgs_cons (pg_name (i := 2) S_is_alphabet.nd rfl (Or.inl rfl)) pgs_nil))) (fun _ _ _ _ _ => pts_nil) (fun _ _ _ _ _ => (pe_cmpR op_lt_str (pv 1) (pv 2) (nomark _)))) pa_nil)))))), ?_⟩
  refine q_when (et_or (et_lt (ev_lenS (by omega) (ev_var rfl)) ev_c) (fun _ => et_gt (ev_lenS (by omega) (ev_var rfl)) ev_c)) (fun hb H1 e1 => ?_) (fun hb H1 e1 => ?_)
  · exact s_ret ev_c fun H2 e2 => q H2 (e1.trans e2)
  have hl : 1 ≤ al.length ∧ al.length ≤ 6 := by
    rw [Bool.or_eq_false_iff] at hb
    have h1 := of_decide_eq_false hb.1
    have h2 := of_decide_eq_false hb.2
    omega
  by_cases c : ∃ c ∈ al, c ∉ lets
  · have hst := strip_some c
    rw [← lets_is] at hst
    refine q_take (et_is (et_test (ev_op (ev_bm (z := .str (Txt.stripChars (SX.S al) (Str.ofString "0123456789abcdefghijklmnopqrstuvwxyz"))) (ev_var rfl) (fun _ _ => rfl) (ea_cons ev_c ea_nil) fun H2 _ Q' q' => ⟨SX.S al, _, rfl, rfl, by rw [SX.S_len]; exact sz_of (by omega), q' H2 (Ex.refl H2)⟩) ev_c (rv_ne rfl))) (by
      rw [nil_is, decide_eq_false fun z => hst (V.str.inj z)]
      rfl)) fun H2 e2 => s_ret ev_c fun H3 e3 => q H3 ((e1.trans e2).trans e3)
  · have hin : ∀ c ∈ al, c ∈ lets := fun x hx => Classical.byContradiction fun hn => c ⟨x, hx, hn⟩
    have hst : Txt.stripChars (SX.S al) (Str.ofString "0123456789abcdefghijklmnopqrstuvwxyz") = SX.S [] := by
      rw [lets_is]
      exact strip_chars hin
    refine q_skip (et_is (et_test (ev_op (ev_bm (z := tx []) (ev_var rfl) (fun _ _ => rfl) (ea_cons ev_c ea_nil) fun H2 _ Q' q' => ⟨SX.S al, _, rfl, rfl, by rw [SX.S_len]; exact sz_of (by omega), by rw [hst]; exact q' H2 (Ex.refl H2)⟩) ev_c (rv_ne rfl))) (by rw [nil_is]; simp)) fun H2 e2 => ?_
    refine s_ret (ev_is (ev_allN (bs := (List.range (min al.length (al.drop 1).length)).map fun i => decide (al.getD i 0 < (al.drop 1).getD i 0)) ?_) ?_) fun H3 e3 => q H3 ((e1.trans e2).trans e3)
    · have g := el_lcZ (K := K) (σ := [some (tx al), none, none]) (H := H2) (x := al) (y := al.drop 1) (tp := tCons (tVar 0) (tCons (tSl rSlS (tVar 0) (tPart (tC (.int 1))) tNoPart) tNil)) (j1 := 1) (j2 := 2) (vs := [1, 2]) (te := tOp (fun x y H Q => ∃ i j : Str, x = .str i ∧ y = .str j ∧ Q (.bl (decide (i.cps.toList < j.cps.toList))) H) (tVar 1) (tVar 2))
        (fun i => V.bl (decide (al.getD i 0 < (al.drop 1).getD i 0)))
        (ea_cons (ev_var rfl) (ea_cons (ev_is (ev_slS (by omega) (ev_var rfl) (eo_some (i := ((1 : Nat) : Int)) ev_c) eo_none) (by rw [cutL_from])) ea_nil)) (by omega) (fun a b => rfl) (fun i c d H3 e3 hc hd => ?_)
      · rw [List.map_map]
        exact g
      · have ec : al.getD i 0 = c := by
          rw [List.getD_eq_getElem?_getD, hc]
          rfl
        have ed : (al.drop 1).getD i 0 = d := by
          rw [List.getD_eq_getElem?_getD, hd]
          rfl
        rw [ec, ed]
        refine ev_is (ev_op (ev_var rfl) (ev_var rfl) rv_ltS) ?_
        congr 1
        refine decide_eq_decide.mpr ?_
        constructor
        · intro h
          cases h with
          | rel h => exact h
          | cons h => cases h
        · exact fun h => List.Lex.rel h
    · congr 1
      refine Bool.eq_false_iff.mpr fun hall => hA ⟨asc_of al fun i hi => ?_, hl.1, hl.2, fun c hc => lets_let (hin c hc)⟩
      rw [List.all_eq_true] at hall
      have hd : (al.drop 1).length = al.length - 1 := List.length_drop
      have := hall _ (List.mem_map.mpr ⟨i, List.mem_range.mpr (by omega), rfl⟩)
      have := of_decide_eq_true (show decide (al.getD i 0 < (al.drop 1).getD i 0) = true from this)
      rw [List.getD_eq_getElem?_getD (l := al.drop 1), List.getElem?_drop, Nat.add_comm 1 i, ← List.getD_eq_getElem?_getD] at this
      exact this
/-! ### check_alphabet, check_text that raise -/
def spCkAlB (C : Addr) : Sp := fun vs H Q E => ∃ al : List Nat, vs = [tx al] ∧ ¬ Alf al ∧ al.length ≤ 40000 ∧ RetE C [("alphabet", tx al)] H E
def HasX (P : Program) (w : World) (K : PySem.W.Frag) (mg : Str → Option Value) (base : Heap) (x : Str) (st : Stmt) (ps : List Str) (k : Nat) (sp : Sp) : Prop :=
  ∃ f fd, Fun K x x st f fd ∧ FnOk P w K mg base (L2.CX P w) k f fd ps sp ∧ L2.Binds K fd ps [] ∧ mg x = some (.ref f) ∧ PySem.W.keepIn K (.ref f) = true
/-- both at once -/
theorem has_both {x : Str} {st : Stmt} {ps : List Str} {k j : Nat} {sp sp' : Sp} (h1 : Has P w K mg base x st ps j sp) (h2 : HasX P w K mg base x st ps k sp') (hk : j ≤ k) : HasX P w K mg base x st ps k (fun vs H Q E => sp vs H Q E ∨ sp' vs H Q E) := by
  obtain ⟨f, fd, F, G, b, m, kp⟩ := h2
  obtain ⟨f1, fd1, F1, G1, b1, m1, k1⟩ := h1
  have ef : f1 = f := by
    have := m1.symm.trans m
    cases this
    rfl
  subst ef
  obtain ⟨oc, od, kV, doc, pm, an, cdv, ct, osl, rfl, lk, hcd⟩ := F.ex
  obtain ⟨oc', od', kV', doc', pm', an', cdv', ct', osl', rfl, lk', hcd'⟩ := F1.ex
  have := lk.symm.trans lk'
  cases this
  exact ⟨f1, _, F, FnOk.both (FnOk.up (G1.mono hk)) G, b, m, kp⟩
theorem has_ckalB (F : At K mg "check_alphabet" s_check_alphabet) (T : Top K mg C_Cut) (GE_BadAlphabet : Er_BadAlphabet P w K mg base C_BadAlphabet) (h1 : Has P w K mg base "is_alphabet" s_is_alphabet ["string"] 1 spIsAlB) : HasX P w K mg base "check_alphabet" s_check_alphabet ["alphabet"] 3 (spCkAlB C_BadAlphabet) := by
  obtain ⟨f, fd, F, m⟩ := F.ex
  obtain ⟨f1, fd1, _, G_is_alphabet, b_is_alphabet, m_is_alphabet, k_is_alphabet⟩ := h1
  refine ⟨f, fd, F, F.okX S_check_alphabet (fun vs H Q E h => ?_) (fun cdv A outer s H vs Q E hr h => ?_), F.binds fun _ _ _ _ _ _ us hl => match us, hl with | [_], _ => rfl, m, F.kp⟩
  · obtain ⟨al, rfl, _⟩ := h
    rfl
  obtain ⟨al, rfl, hA, hz, q⟩ := h
  refine ⟨_, (pss_one
    (ps_if (pt_not (pt_val (pe_call G_is_alphabet (hr.mono (by decide)) rfl m_is_alphabet k_is_alphabet b_is_alphabet .nil pass0 (pa_cons (pv 0) pa_nil)))) (pss_one
    (ps_raiseE rfl GE_BadAlphabet (hr.mono (by decide)) (takes_of rfl rfl rfl rfl) (pa_cons (pv 0) pa_nil) rfl)) pss_nil)), ?_⟩
  refine s_when (et_not (et_B (ev_call (ea_cons (ev_var rfl) ea_nil) (z := .bl false) fun H2 e2 Q' q' E' => ⟨al, rfl, hA, hz, q'⟩))) (fun hb H1 e1 => ?_) (fun hb H1 e1 => nomatch hb)
  exact s_raiseR (vs := [tx al]) (ea_cons (ev_var rfl) ea_nil) rfl (by decide) e1 q
def spCkTxB (C : Addr) : Sp := fun vs H Q E => ∃ (al v : List Nat) (k : Nat), vs = [tx al, tx v] ∧ bad1 al v k ∧ v.length ≤ 100000 ∧ RetE C [("index", .int (k : Int))] H E
theorem has_cktxB (F : At K mg "check_text" s_check_text) (T : Top K mg C_Cut) (GE_BadLetter : Er_BadLetter P w K mg base C_BadLetter) : HasX P w K mg base "check_text" s_check_text ["alphabet", "text"] 3 (spCkTxB C_BadLetter) := by
  obtain ⟨f, fd, F, m⟩ := F.ex
  refine ⟨f, fd, F, F.okX S_check_text (fun vs H Q E h => ?_) (fun cdv A outer s H vs Q E hr h => ?_), F.binds fun _ _ _ _ _ _ us hl => match us, hl with | [_, _], _ => rfl, m, F.kp⟩
  · obtain ⟨al, v, k, rfl, _⟩ := h
    rfl
  obtain ⟨al, v, k, rfl, hb, hz, q⟩ := h
  obtain ⟨r1, r2⟩ := bad1_rest hb
  have hk := hb.2
  refine ⟨_, (pss_cons
    (ps_set (i := 2) S_check_text.nd rfl (Or.inl rfl) (pe_bm PySem.F.plainAttrs_str PySem.F.slot_str_lstrip PySem.F.type_str_lstrip mt_lstripChars (pv 1) (pa_cons (pv 0) pa_nil)))
    (pss_one
    (ps_if (pt_cmpR op_ne (pv 2) pe_str (nomark _)) (pss_one
    (ps_raiseE rfl GE_BadLetter (hr.mono (by decide)) (takes_of rfl rfl rfl rfl) (pa_cons (pe_op op_sub (pe_callB call_len_str rfl T.z_len PySem.boot_len (pa_cons (pv 1) pa_nil)) (pe_callB call_len_str rfl T.z_len PySem.boot_len (pa_cons (pv 2) pa_nil))) pa_nil) rfl)) pss_nil))), ?_⟩
  refine q_asg (v := tx (v.dropWhile (inL al))) (ev_bm (ev_var rfl) (fun _ _ => rfl) (ea_cons (ev_var rfl) ea_nil) fun H2 _ Q' q' => ⟨SX.S v, SX.S al, rfl, rfl, by rw [SX.S_len]; exact sz_of hz, by rw [lstrip_is]; exact q' H2 (Ex.refl H2)⟩) fun H1 e1 => ?_
  refine s_when (et_is (et_test (ev_op (ev_var rfl) ev_c (rv_ne rfl))) (b := true) (by rw [nil_is, tx_dec, decide_eq_false r2]; rfl)) (fun hb H2 e2 => ?_) (fun hb H2 e2 => nomatch hb)
  exact s_raiseR (vs := [.int (k : Int)]) (ea_cons (ev_is (ev_sub (ev_lenS (by omega) (ev_var rfl)) (ev_lenS (by omega) (ev_var rfl))) (by rw [r1]; congr 1; omega)) ea_nil) rfl (by decide) (e1.trans e2) q
end
end Ver
namespace Ver
open PySem PySem.Spec PyProof.Rows L2 Evl
theorem RetE.mono {C : Addr} {fs : List (Str × V)} {H H' : Hp} {E : XK} (h : RetE C fs H E) (e : Ex H H') : RetE C fs H' E := fun d H2 e2 hd h2 => h d H2 (e.trans e2) (fresh_back e hd) h2
section
variable {P : Program} {w : World} {K : PySem.W.Frag} {mg : Str → Option Value} {base : Heap} {C_Cut : Addr} {C_PressError : Addr} {C_BadAlphabet : Addr} {C_BadLetter : Addr} {C_BadRow : Addr} {C_BadTail : Addr} {C_BadRank : Addr} {C_NotBits : Addr} {C_BadIndex : Addr} {C_BadStanding : Addr} {C_BadRule : Addr} {C_AlphabetsDiffer : Addr} {C_DoesNotComeBack : Addr} {C_TooLarge : Addr} {C_NotWritten : Addr} {C_NoSuchText : Addr} {C_BadName : Addr} {C_NameTaken : Addr} {C_NoName : Addr} {C_EmptyRing : Addr} {C_NotInLot : Addr} {C_BadBuild : Addr} {C_BadGrowth : Addr} {C_EmptyText : Addr} {C_NothingToUndo : Addr} {C_NothingToRedo : Addr}
def HasIX (P : Program) (w : World) (K : PySem.W.Frag) (mg : Str → Option Value) (base : Heap) (C : Addr) (ps : List Str) (k : Nat) (sp : Sp) : Prop :=
  ∃ f fd, FnOk P w K mg base (L2.CX P w) k f fd ps sp ∧ L2.Binds K fd ps [] ∧ Mk K C f
theorem q_dropS {σ : L2.St} {H : Hp} {D : Ends} {tz : TS} {sp : Sp} {E : L2.St → XK} {ta : TA} {vs : List V} (h : EvA ta σ H vs) (k : ∀ H1, Ex H H1 → sp vs H1 (fun _ H2 => tz D σ H2) (E σ)) : tSeq (tDrop (tCallS sp E ta)) tz D σ H := h H (Ex.refl H) _ k
end
end Ver
namespace Ver
open PySem PySem.Spec PyProof.Rows L2 Evl
theorem q_asgS {σ : L2.St} {H : Hp} {D : Ends} {tz : TS} {sp : Sp} {E : L2.St → XK} {ta : TA} {vs : List V} {i : Nat} (h : EvA ta σ H vs) (k : ∀ H1, Ex H H1 → sp vs H1 (fun v H2 => tz D (σ.set i (some v)) H2) (E σ)) : tSeq (tAsg (tCallS sp E ta) (gName i)) tz D σ H := h H (Ex.refl H) _ k
section
variable {P : Program} {w : World} {K : PySem.W.Frag} {mg : Str → Option Value} {base : Heap} {C_Cut : Addr} {C_PressError : Addr} {C_BadAlphabet : Addr} {C_BadLetter : Addr} {C_BadRow : Addr} {C_BadTail : Addr} {C_BadRank : Addr} {C_NotBits : Addr} {C_BadIndex : Addr} {C_BadStanding : Addr} {C_BadRule : Addr} {C_AlphabetsDiffer : Addr} {C_DoesNotComeBack : Addr} {C_TooLarge : Addr} {C_NotWritten : Addr} {C_NoSuchText : Addr} {C_BadName : Addr} {C_NameTaken : Addr} {C_NoName : Addr} {C_EmptyRing : Addr} {C_NotInLot : Addr} {C_BadBuild : Addr} {C_BadGrowth : Addr} {C_EmptyText : Addr} {C_NothingToUndo : Addr} {C_NothingToRedo : Addr}
/-! ### cut_of, press that raise -/
/-- what an alphabet and a text come to that are not both good -/
def txBad (CA CL : Addr) (al v : List Nat) (H : Hp) (E : XK) : Prop := (¬ Alf al ∧ RetE CA [("alphabet", tx al)] H E) ∨ (Alf al ∧ ∃ k, bad1 al v k ∧ RetE CL [("index", .int (k : Int))] H E)
theorem txBad.mono {CA CL : Addr} {al v : List Nat} {H H' : Hp} {E : XK} (h : txBad CA CL al v H E) (e : Ex H H') : txBad CA CL al v H' E := h.imp (fun ⟨a, b⟩ => ⟨a, b.mono e⟩) fun ⟨a, k, b, c⟩ => ⟨a, k, b, c.mono e⟩
def spCutB (CA CL : Addr) : Sp := fun vs H Q E => ∃ al v : List Nat, vs = [tx al, tx v] ∧ al.length ≤ 40000 ∧ v.length ≤ 40000 ∧ txBad CA CL al v H E
theorem has_cutB (F : At K mg "cut_of" s_cut_of) (T : Top K mg C_Cut) (g1 : HasX P w K mg base "check_alphabet" s_check_alphabet ["alphabet"] 3 (fun vs H Q E => spCkAl vs H Q E ∨ spCkAlB C_BadAlphabet vs H Q E)) (g2 : HasX P w K mg base "check_text" s_check_text ["alphabet", "text"] 3 (fun vs H Q E => spCkTx vs H Q E ∨ spCkTxB C_BadLetter vs H Q E))
    (g3 : HasI P w K mg base C_Cut ["self", "alphabet", "rows", "tail"] 5 (spInit C_Cut)) : HasX P w K mg base "cut_of" s_cut_of ["alphabet", "text"] 7 (spCutB C_BadAlphabet C_BadLetter) := by
  obtain ⟨f, fd, F, m⟩ := F.ex
  obtain ⟨f1, fd1, _, GX_check_alphabet, b_check_alphabet, m_check_alphabet, k_check_alphabet⟩ := g1
  obtain ⟨f2, fd2, _, GX_check_text, b_check_text, m_check_text, k_check_text⟩ := g2
  obtain ⟨f3, fd3, G_Cut___init__, b_Cut___init__, mk_Cut⟩ := g3
  refine ⟨f, fd, F, F.okX S_cut_of (fun vs H Q E h => ?_) (fun cdv A outer s H vs Q E hr h => ?_), F.binds fun _ _ _ _ _ _ us hl => match us, hl with | [_, _], _ => rfl, m, F.kp⟩
  · obtain ⟨al, v, rfl, _⟩ := h
    rfl
  obtain ⟨al, v, rfl, z1, z2, q⟩ := h
  refine ⟨_, (pss_cons
    (ps_expr (pe_callS GX_check_alphabet (hr.mono (by decide)) rfl m_check_alphabet k_check_alphabet b_check_alphabet (fun σ => passAt (takes_of rfl rfl rfl rfl) σ) (pa_cons (pv 0) pa_nil)))
    (pss_cons
    (ps_expr (pe_callS GX_check_text (hr.mono (by decide)) rfl m_check_text k_check_text b_check_text (fun σ => passAt (takes_of rfl rfl rfl rfl) σ) (pa_cons (pv 0) (pa_cons (pv 1) pa_nil))))
    (pss_cons
    (ps_set (i := 2) S_cut_of.nd rfl (Or.inl rfl) pe_dnewT)
    (pss_cons
    (ps_set (i := 3) S_cut_of.nd rfl (Or.inl rfl) (pe_lst pa_nil))
    (pss_cons
    (ps_set (i := 4) S_cut_of.nd rfl (Or.inl rfl) pe_int)
    (pss_cons
    (ps_for (passes_of rfl) rfl (pi_str (pv 1)) (pg_name (i := 5) S_cut_of.nd rfl (Or.inl rfl)) (pss_cons
    (ps_set (i := 6) S_cut_of.nd rfl (Or.inl rfl) (pe_tup (pa_cons (pv 4) (pa_cons (pv 5) pa_nil))))
    (pss_one
    (ps_if (pt_cmp (pc_din (hu_of hr) (pv 6) (pv 2))) (pss_one
    (ps_set (i := 4) S_cut_of.nd rfl (Or.inl rfl) (pe_dget (hu_of hr) (pv 2) (pv 6) (fun _ _ => rfl)))) (pss_cons
    (ps_expr (pe_bm PySem.F.plainAttrs_list PySem.F.slot_list_append PySem.F.type_list_append mt_append (pv 3) (pa_cons (pv 6) pa_nil)))
    (pss_cons
    (ps_dput (hu_of hr) (pv 2) (pv 6) (pe_callB call_len_seq rfl T.z_len PySem.boot_len (pa_cons (pv 3) pa_nil)) rfl)
    (pss_one
    (ps_set (i := 4) S_cut_of.nd rfl (Or.inl rfl) pe_int))))))))
    (pss_one
    (ps_ret (pe_make mk_Cut G_Cut___init__ (hr.mono (by decide)) rfl T.c_Cut b_Cut___init__ .nil pass0 (pa_cons (pv 0) (pa_cons (pv 3) (pa_cons (pv 4) pa_nil)))))))))))), ?_⟩
  refine q_dropS (ea_cons (ev_var rfl) ea_nil) fun H1 e1 => ?_
  rcases q with ⟨hA, q⟩ | ⟨hA, k, hb, q⟩
  · exact .inr ⟨al, rfl, hA, z1, q.mono e1⟩
  refine .inl ⟨al, rfl, hA, fun H2 e2 => ?_⟩
  refine q_dropS (ea_cons (ev_var rfl) (ea_cons (ev_var rfl) ea_nil)) fun H3 e3 => ?_
  exact .inr ⟨al, v, k, rfl, hb, by omega, q.mono ((e1.trans e2).trans e3)⟩
end
end Ver
namespace Ver
open PySem PySem.Spec PyProof.Rows L2 Evl
section
variable {P : Program} {w : World} {K : PySem.W.Frag} {mg : Str → Option Value} {base : Heap} {C_Cut : Addr} {C_PressError : Addr} {C_BadAlphabet : Addr} {C_BadLetter : Addr} {C_BadRow : Addr} {C_BadTail : Addr} {C_BadRank : Addr} {C_NotBits : Addr} {C_BadIndex : Addr} {C_BadStanding : Addr} {C_BadRule : Addr} {C_AlphabetsDiffer : Addr} {C_DoesNotComeBack : Addr} {C_TooLarge : Addr} {C_NotWritten : Addr} {C_NoSuchText : Addr} {C_BadName : Addr} {C_NameTaken : Addr} {C_NoName : Addr} {C_EmptyRing : Addr} {C_NotInLot : Addr} {C_BadBuild : Addr} {C_BadGrowth : Addr} {C_EmptyText : Addr} {C_NothingToUndo : Addr} {C_NothingToRedo : Addr}
/-- a def that is called with an error standing by -/
def HasP (P : Program) (w : World) (K : PySem.W.Frag) (mg : Str → Option Value) (base : Heap) (x : Str) (ps : List Str) (k : Nat) (sp : Addr → Value → Option Addr → Sp) : Prop :=
  ∃ f fd, FnP P w K mg base k f fd ps sp ∧ L2.Binds K fd ps [] ∧ mg x = some (.ref f) ∧ PySem.W.keepIn K (.ref f) = true
def dOk (d : Option Addr) (H : Hp) : Prop := ∀ dd, d = some dd → ∃ fs, H dd = some (.xd fs)
theorem dOk.mono {d : Option Addr} {H H' : Hp} (h : dOk d H) (e : Ex H H') : dOk d H' := fun dd x => (h dd x).imp fun fs q => e _ _ q
section
variable {σ : L2.St} {H : Hp} {ta tb : TE} {a D : Addr} {cls : Value} {d : Option Addr} {c : V} {cv : Value} {b : Bool} {cs : List V} {cvs : List Value}
theorem ev_isS (ha : Ev ta σ H (.ref a)) (hb : Ev tb σ H c) (hc : cls = .ref D) (C : ExcC K D) (hd : dOk d H) (k : ClsV c cv) (e : PySem.W.kitOne K (.ref D) cv = some b) : Ev (tCB (rIsS K a cls d) (tCons ta (tCons tb tNil))) σ H (.bl b) := fun H1 x Q q =>
  ha H1 x _ fun H2 e2 => hb H2 (x.trans e2) _ fun H3 e3 => ⟨D, c, cv, b, rfl, hc, C, hd.mono ((x.trans e2).trans e3), k, e, q H3 (e2.trans e3)⟩
theorem ev_isO (ha : Ev ta σ H (.ref a)) (hb : Ev tb σ H c) (C : ExcC K D) (hd : H a = some (ExO (.ref D) a)) (k : ClsV c cv) (e : PySem.W.kitOne K (.ref D) cv = some b) : Ev (tCB (rIsO K) (tCons ta (tCons tb tNil))) σ H (.bl b) := fun H1 x Q q =>
  ha H1 x _ fun H2 e2 => hb H2 (x.trans e2) _ fun H3 e3 => ⟨a, D, c, cv, b, rfl, C, ((x.trans e2).trans e3) _ _ hd, k, e, q H3 (e2.trans e3)⟩
theorem ev_isST (ha : Ev ta σ H (.ref a)) (hb : EvU tb σ H cs) (hc : cls = .ref D) (C : ExcC K D) (hd : dOk d H) (k : Paired ClsV cs cvs) (e : PySem.W.kitAny K (.ref D) cvs = some b) : Ev (tCB (rIsST K a cls d) (tCons ta (tCons tb tNil))) σ H (.bl b) := fun H1 x Q q =>
  ha H1 x _ fun H2 e2 => hb H2 (x.trans e2) _ fun tp H3 _ e3 g3 => ⟨D, tp, cs, cvs, b, rfl, hc, C, hd.mono ((x.trans e2).trans e3), g3, k, e, q H3 (e2.trans e3)⟩
theorem ev_isOT (ha : Ev ta σ H (.ref a)) (hb : EvU tb σ H cs) (C : ExcC K D) (hd : H a = some (ExO (.ref D) a)) (k : Paired ClsV cs cvs) (e : PySem.W.kitAny K (.ref D) cvs = some b) : Ev (tCB (rIsOT K) (tCons ta (tCons tb tNil))) σ H (.bl b) := fun H1 x Q q =>
  ha H1 x _ fun H2 e2 => hb H2 (x.trans e2) _ fun tp H3 _ e3 g3 => ⟨a, D, tp, cs, cvs, b, rfl, C, ((x.trans e2).trans e3) _ _ hd, g3, k, e, q H3 (e2.trans e3)⟩
end
/-! ### _law_whole with an error standing by -/
theorem hp_lwhole (F : At K mg "_law_whole" s__law_whole) (T : Top K mg C_Cut) : HasP P w K mg base "_law_whole" ["value"] 1 (fun _ _ _ => spWhole) := by
  obtain ⟨f, fd, F, m⟩ := F.ex
  refine ⟨f, fd, okP F S__law_whole (fun a cls d vs H Q E h => ?_) (fun cdv A outer s H vs Q E p cls d hz hf hr h => ?_), F.binds fun _ _ _ _ _ _ us hl => match us, hl with | [_], _ => rfl, m, F.kp⟩
  · obtain ⟨n, rfl, _⟩ := h
    rfl
  obtain ⟨n, rfl, q⟩ := h
  refine ⟨_, (pss_one
    (ps_ret (pe_and (pe_callB call_isi rfl T.z_isinstance (by decide +kernel) (pa_cons (pv 0) (pa_cons (pe_bltn (v := .ty "int") rfl T.z_int (by decide +kernel) rfl) pa_nil))) (pe_one (pe_not (pe_callB call_isi rfl T.z_isinstance (by decide +kernel) (pa_cons (pv 0) (pa_cons (pe_bltn (v := .ty "bool") rfl T.z_bool (by decide +kernel) rfl) pa_nil)))))))), ?_⟩
  exact s_ret (ev_is (ev_andV (ev_cb (ea_cons (ev_var rfl) (ea_cons ev_c ea_nil)) (rc_isi (b := true) (by decide +kernel)))
    (fun _ => ev_notV (ev_cb (ea_cons (ev_var rfl) (ea_cons ev_c ea_nil)) (rc_isi (b := false) (by decide +kernel))))) rfl) q
end
end Ver
namespace Ver
open PySem PySem.Spec PyProof.Rows L2 Evl
section
variable {P : Program} {w : World} {K : PySem.W.Frag} {mg : Str → Option Value} {base : Heap} {C_Cut : Addr} {C_PressError : Addr} {C_BadAlphabet : Addr} {C_BadLetter : Addr} {C_BadRow : Addr} {C_BadTail : Addr} {C_BadRank : Addr} {C_NotBits : Addr} {C_BadIndex : Addr} {C_BadStanding : Addr} {C_BadRule : Addr} {C_AlphabetsDiffer : Addr} {C_DoesNotComeBack : Addr} {C_TooLarge : Addr} {C_NotWritten : Addr} {C_NoSuchText : Addr} {C_BadName : Addr} {C_NameTaken : Addr} {C_NoName : Addr} {C_EmptyRing : Addr} {C_NotInLot : Addr} {C_BadBuild : Addr} {C_BadGrowth : Addr} {C_EmptyText : Addr} {C_NothingToUndo : Addr} {C_NothingToRedo : Addr}
def spKin (C : Addr) : Addr → Value → Option Addr → Sp := fun a cls d vs H Q _ => vs = [.ref a] ∧ cls = .ref C ∧ dOk d H ∧ RetV (.bl true) H Q
def spKin2 (C1 C2 : Addr) : Addr → Value → Option Addr → Sp := fun a cls d vs H Q _ => vs = [.ref a] ∧ (cls = .ref C1 ∨ cls = .ref C2) ∧ dOk d H ∧ RetV (.bl true) H Q
theorem hp_kin (F : At K mg "_law_kin" s__law_kin) (T : Top K mg C_Cut) (TE : ETop K mg C_PressError C_BadAlphabet C_BadLetter C_BadRow C_BadTail C_BadRank C_NotBits C_BadIndex C_BadStanding C_BadRule C_AlphabetsDiffer C_DoesNotComeBack C_TooLarge C_NotWritten C_NoSuchText C_BadName C_NameTaken C_NoName C_EmptyRing C_NotInLot C_BadBuild C_BadGrowth C_EmptyText C_NothingToUndo C_NothingToRedo) (x1 : ExcC K C_BadAlphabet) (x2 : ExcC K C_BadLetter) : HasP P w K mg base "_law_kin" ["e"] 1 (spKin2 C_BadAlphabet C_BadLetter) := by
  obtain ⟨f, fd, F, m⟩ := F.ex
  refine ⟨f, fd, okP F S__law_kin (fun a cls d vs H Q E h => ?_) (fun cdv A outer s H vs Q E p cls d hz hf hr h => ?_), F.binds fun _ _ _ _ _ _ us hl => match us, hl with | [_], _ => rfl, m, F.kp⟩
  · obtain ⟨rfl, _⟩ := h
    rfl
  obtain ⟨rfl, hc, hd, q⟩ := h
  refine ⟨_, (pss_cons
    (ps_if (PW.pt (pw_or (pt_not (pt_val (by exact (pe_callB (id := "isinstance") (call_isS (p := p) (a := p.1) (K := K) rfl rfl List.mem_cons_self hz hf) rfl T.z_isinstance (by decide +kernel) (pa_cons (pv 0) (pa_cons (pe_glob (v := .ref C_PressError) rfl TE.c_PressError rfl) pa_nil)))))) (pw_or1 (pt_not (pt_val (by exact (pe_callB (id := "isinstance") (call_isS (p := p) (a := p.1) (K := K) rfl rfl List.mem_cons_self hz hf) rfl T.z_isinstance (by decide +kernel) (pa_cons (pv 0) (pa_cons (pe_bltn (v := .ty "ValueError") rfl T.z_ValueError (by decide +kernel) rfl) pa_nil))))))))) (pss_one
    (ps_ret pe_bl)) pss_nil)
    (pss_cons
    (ps_set (i := 1) S__law_kin.nd rfl (Or.inl rfl) (pe_op op_add (pe_op op_add (pe_op op_add (pe_callTy call_int1 rfl T.z_int (by decide +kernel) (pa_cons (by exact (pe_callB (id := "isinstance") (call_isS (p := p) (a := p.1) (K := K) rfl rfl List.mem_cons_self hz hf) rfl T.z_isinstance (by decide +kernel) (pa_cons (pv 0) (pa_cons (pe_glob (v := .ref C_BadAlphabet) rfl TE.c_BadAlphabet rfl) pa_nil)))) pa_nil)) (pe_callTy call_int1 rfl T.z_int (by decide +kernel) (pa_cons (by exact (pe_callB (id := "isinstance") (call_isS (p := p) (a := p.1) (K := K) rfl rfl List.mem_cons_self hz hf) rfl T.z_isinstance (by decide +kernel) (pa_cons (pv 0) (pa_cons (pe_glob (v := .ref C_BadLetter) rfl TE.c_BadLetter rfl) pa_nil)))) pa_nil))) (pe_callTy call_int1 rfl T.z_int (by decide +kernel) (pa_cons (by exact (pe_callB (id := "isinstance") (call_isS (p := p) (a := p.1) (K := K) rfl rfl List.mem_cons_self hz hf) rfl T.z_isinstance (by decide +kernel) (pa_cons (pv 0) (pa_cons (pe_glob (v := .ref C_BadRow) rfl TE.c_BadRow rfl) pa_nil)))) pa_nil))) (pe_callTy call_int1 rfl T.z_int (by decide +kernel) (pa_cons (by exact (pe_callB (id := "isinstance") (call_isS (p := p) (a := p.1) (K := K) rfl rfl List.mem_cons_self hz hf) rfl T.z_isinstance (by decide +kernel) (pa_cons (pv 0) (pa_cons (pe_glob (v := .ref C_BadTail) rfl TE.c_BadTail rfl) pa_nil)))) pa_nil))))
    (pss_cons
    (ps_set (i := 1) S__law_kin.nd rfl (Or.inl rfl) (pe_op op_add (pe_op op_add (pe_op op_add (pe_op op_add (pv 1) (pe_callTy call_int1 rfl T.z_int (by decide +kernel) (pa_cons (by exact (pe_callB (id := "isinstance") (call_isS (p := p) (a := p.1) (K := K) rfl rfl List.mem_cons_self hz hf) rfl T.z_isinstance (by decide +kernel) (pa_cons (pv 0) (pa_cons (pe_glob (v := .ref C_BadRank) rfl TE.c_BadRank rfl) pa_nil)))) pa_nil))) (pe_callTy call_int1 rfl T.z_int (by decide +kernel) (pa_cons (by exact (pe_callB (id := "isinstance") (call_isS (p := p) (a := p.1) (K := K) rfl rfl List.mem_cons_self hz hf) rfl T.z_isinstance (by decide +kernel) (pa_cons (pv 0) (pa_cons (pe_glob (v := .ref C_NotBits) rfl TE.c_NotBits rfl) pa_nil)))) pa_nil))) (pe_callTy call_int1 rfl T.z_int (by decide +kernel) (pa_cons (by exact (pe_callB (id := "isinstance") (call_isS (p := p) (a := p.1) (K := K) rfl rfl List.mem_cons_self hz hf) rfl T.z_isinstance (by decide +kernel) (pa_cons (pv 0) (pa_cons (pe_glob (v := .ref C_BadIndex) rfl TE.c_BadIndex rfl) pa_nil)))) pa_nil))) (pe_callTy call_int1 rfl T.z_int (by decide +kernel) (pa_cons (by exact (pe_callB (id := "isinstance") (call_isS (p := p) (a := p.1) (K := K) rfl rfl List.mem_cons_self hz hf) rfl T.z_isinstance (by decide +kernel) (pa_cons (pv 0) (pa_cons (pe_glob (v := .ref C_BadStanding) rfl TE.c_BadStanding rfl) pa_nil)))) pa_nil))))
    (pss_cons
    (ps_set (i := 1) S__law_kin.nd rfl (Or.inl rfl) (pe_op op_add (pe_op op_add (pe_op op_add (pv 1) (pe_callTy call_int1 rfl T.z_int (by decide +kernel) (pa_cons (by exact (pe_callB (id := "isinstance") (call_isS (p := p) (a := p.1) (K := K) rfl rfl List.mem_cons_self hz hf) rfl T.z_isinstance (by decide +kernel) (pa_cons (pv 0) (pa_cons (pe_glob (v := .ref C_BadRule) rfl TE.c_BadRule rfl) pa_nil)))) pa_nil))) (pe_callTy call_int1 rfl T.z_int (by decide +kernel) (pa_cons (by exact (pe_callB (id := "isinstance") (call_isS (p := p) (a := p.1) (K := K) rfl rfl List.mem_cons_self hz hf) rfl T.z_isinstance (by decide +kernel) (pa_cons (pv 0) (pa_cons (pe_glob (v := .ref C_AlphabetsDiffer) rfl TE.c_AlphabetsDiffer rfl) pa_nil)))) pa_nil))) (pe_callTy call_int1 rfl T.z_int (by decide +kernel) (pa_cons (by exact (pe_callB (id := "isinstance") (call_isS (p := p) (a := p.1) (K := K) rfl rfl List.mem_cons_self hz hf) rfl T.z_isinstance (by decide +kernel) (pa_cons (pv 0) (pa_cons (pe_glob (v := .ref C_DoesNotComeBack) rfl TE.c_DoesNotComeBack rfl) pa_nil)))) pa_nil))))
    (pss_cons
    (ps_set (i := 1) S__law_kin.nd rfl (Or.inl rfl) (pe_op op_add (pe_op op_add (pe_op op_add (pe_op op_add (pv 1) (pe_callTy call_int1 rfl T.z_int (by decide +kernel) (pa_cons (by exact (pe_callB (id := "isinstance") (call_isS (p := p) (a := p.1) (K := K) rfl rfl List.mem_cons_self hz hf) rfl T.z_isinstance (by decide +kernel) (pa_cons (pv 0) (pa_cons (pe_glob (v := .ref C_TooLarge) rfl TE.c_TooLarge rfl) pa_nil)))) pa_nil))) (pe_callTy call_int1 rfl T.z_int (by decide +kernel) (pa_cons (by exact (pe_callB (id := "isinstance") (call_isS (p := p) (a := p.1) (K := K) rfl rfl List.mem_cons_self hz hf) rfl T.z_isinstance (by decide +kernel) (pa_cons (pv 0) (pa_cons (pe_glob (v := .ref C_NotWritten) rfl TE.c_NotWritten rfl) pa_nil)))) pa_nil))) (pe_callTy call_int1 rfl T.z_int (by decide +kernel) (pa_cons (by exact (pe_callB (id := "isinstance") (call_isS (p := p) (a := p.1) (K := K) rfl rfl List.mem_cons_self hz hf) rfl T.z_isinstance (by decide +kernel) (pa_cons (pv 0) (pa_cons (pe_glob (v := .ref C_NoSuchText) rfl TE.c_NoSuchText rfl) pa_nil)))) pa_nil))) (pe_callTy call_int1 rfl T.z_int (by decide +kernel) (pa_cons (by exact (pe_callB (id := "isinstance") (call_isS (p := p) (a := p.1) (K := K) rfl rfl List.mem_cons_self hz hf) rfl T.z_isinstance (by decide +kernel) (pa_cons (pv 0) (pa_cons (pe_glob (v := .ref C_BadName) rfl TE.c_BadName rfl) pa_nil)))) pa_nil))))
    (pss_cons
    (ps_set (i := 1) S__law_kin.nd rfl (Or.inl rfl) (pe_op op_add (pe_op op_add (pe_op op_add (pe_op op_add (pv 1) (pe_callTy call_int1 rfl T.z_int (by decide +kernel) (pa_cons (by exact (pe_callB (id := "isinstance") (call_isS (p := p) (a := p.1) (K := K) rfl rfl List.mem_cons_self hz hf) rfl T.z_isinstance (by decide +kernel) (pa_cons (pv 0) (pa_cons (pe_glob (v := .ref C_NameTaken) rfl TE.c_NameTaken rfl) pa_nil)))) pa_nil))) (pe_callTy call_int1 rfl T.z_int (by decide +kernel) (pa_cons (by exact (pe_callB (id := "isinstance") (call_isS (p := p) (a := p.1) (K := K) rfl rfl List.mem_cons_self hz hf) rfl T.z_isinstance (by decide +kernel) (pa_cons (pv 0) (pa_cons (pe_glob (v := .ref C_NoName) rfl TE.c_NoName rfl) pa_nil)))) pa_nil))) (pe_callTy call_int1 rfl T.z_int (by decide +kernel) (pa_cons (by exact (pe_callB (id := "isinstance") (call_isS (p := p) (a := p.1) (K := K) rfl rfl List.mem_cons_self hz hf) rfl T.z_isinstance (by decide +kernel) (pa_cons (pv 0) (pa_cons (pe_glob (v := .ref C_EmptyRing) rfl TE.c_EmptyRing rfl) pa_nil)))) pa_nil))) (pe_callTy call_int1 rfl T.z_int (by decide +kernel) (pa_cons (by exact (pe_callB (id := "isinstance") (call_isS (p := p) (a := p.1) (K := K) rfl rfl List.mem_cons_self hz hf) rfl T.z_isinstance (by decide +kernel) (pa_cons (pv 0) (pa_cons (pe_glob (v := .ref C_NotInLot) rfl TE.c_NotInLot rfl) pa_nil)))) pa_nil))))
    (pss_cons
    (ps_set (i := 1) S__law_kin.nd rfl (Or.inl rfl) (pe_op op_add (pe_op op_add (pe_op op_add (pv 1) (pe_callTy call_int1 rfl T.z_int (by decide +kernel) (pa_cons (by exact (pe_callB (id := "isinstance") (call_isS (p := p) (a := p.1) (K := K) rfl rfl List.mem_cons_self hz hf) rfl T.z_isinstance (by decide +kernel) (pa_cons (pv 0) (pa_cons (pe_glob (v := .ref C_BadBuild) rfl TE.c_BadBuild rfl) pa_nil)))) pa_nil))) (pe_callTy call_int1 rfl T.z_int (by decide +kernel) (pa_cons (by exact (pe_callB (id := "isinstance") (call_isS (p := p) (a := p.1) (K := K) rfl rfl List.mem_cons_self hz hf) rfl T.z_isinstance (by decide +kernel) (pa_cons (pv 0) (pa_cons (pe_glob (v := .ref C_BadGrowth) rfl TE.c_BadGrowth rfl) pa_nil)))) pa_nil))) (pe_callTy call_int1 rfl T.z_int (by decide +kernel) (pa_cons (by exact (pe_callB (id := "isinstance") (call_isS (p := p) (a := p.1) (K := K) rfl rfl List.mem_cons_self hz hf) rfl T.z_isinstance (by decide +kernel) (pa_cons (pv 0) (pa_cons (pe_glob (v := .ref C_EmptyText) rfl TE.c_EmptyText rfl) pa_nil)))) pa_nil))))
    (pss_cons
    (ps_set (i := 1) S__law_kin.nd rfl (Or.inl rfl) (pe_op op_add (pe_op op_add (pv 1) (pe_callTy call_int1 rfl T.z_int (by decide +kernel) (pa_cons (by exact (pe_callB (id := "isinstance") (call_isS (p := p) (a := p.1) (K := K) rfl rfl List.mem_cons_self hz hf) rfl T.z_isinstance (by decide +kernel) (pa_cons (pv 0) (pa_cons (pe_glob (v := .ref C_NothingToUndo) rfl TE.c_NothingToUndo rfl) pa_nil)))) pa_nil))) (pe_callTy call_int1 rfl T.z_int (by decide +kernel) (pa_cons (by exact (pe_callB (id := "isinstance") (call_isS (p := p) (a := p.1) (K := K) rfl rfl List.mem_cons_self hz hf) rfl T.z_isinstance (by decide +kernel) (pa_cons (pv 0) (pa_cons (pe_glob (v := .ref C_NothingToRedo) rfl TE.c_NothingToRedo rfl) pa_nil)))) pa_nil))))
    (pss_one
    (ps_ret (pe_cmpR op_eq (pv 1) pe_int (nomark _)))))))))))), ?_⟩
  rcases hc with hc | hc
  · refine q_skip (et_is (et_or (et_not (et_B (ev_isS (ev_var rfl) ev_c hc x1 hd (.own _) TE.kt_BadAlphabet_PressError))) (fun _ => et_not (et_B (ev_isS (ev_var rfl) ev_c hc x1 hd (.ty _) TE.kt_BadAlphabet_VE)))) rfl) fun H0 e0 => ?_
    refine q_asg (v := .int 1) (ev_is (ev_add (ev_add (ev_add (ev_intB (ev_isS (ev_var rfl) ev_c hc x1 (hd.mono e0) (.own _) TE.kt_BadAlphabet_BadAlphabet)) (ev_intB (ev_isS (ev_var rfl) ev_c hc x1 (hd.mono e0) (.own _) TE.kt_BadAlphabet_BadLetter))) (ev_intB (ev_isS (ev_var rfl) ev_c hc x1 (hd.mono e0) (.own _) TE.kt_BadAlphabet_BadRow))) (ev_intB (ev_isS (ev_var rfl) ev_c hc x1 (hd.mono e0) (.own _) TE.kt_BadAlphabet_BadTail))) rfl) fun H1 e1' => ?_
    have e1 := Ex.trans e0 e1'
    refine q_asg (v := .int 1) (ev_is (ev_add (ev_add (ev_add (ev_add (ev_var rfl) (ev_intB (ev_isS (ev_var rfl) ev_c hc x1 (hd.mono e1) (.own _) TE.kt_BadAlphabet_BadRank))) (ev_intB (ev_isS (ev_var rfl) ev_c hc x1 (hd.mono e1) (.own _) TE.kt_BadAlphabet_NotBits))) (ev_intB (ev_isS (ev_var rfl) ev_c hc x1 (hd.mono e1) (.own _) TE.kt_BadAlphabet_BadIndex))) (ev_intB (ev_isS (ev_var rfl) ev_c hc x1 (hd.mono e1) (.own _) TE.kt_BadAlphabet_BadStanding))) rfl) fun H2 e2' => ?_
    have e2 := Ex.trans e1 e2'
    refine q_asg (v := .int 1) (ev_is (ev_add (ev_add (ev_add (ev_var rfl) (ev_intB (ev_isS (ev_var rfl) ev_c hc x1 (hd.mono e2) (.own _) TE.kt_BadAlphabet_BadRule))) (ev_intB (ev_isS (ev_var rfl) ev_c hc x1 (hd.mono e2) (.own _) TE.kt_BadAlphabet_AlphabetsDiffer))) (ev_intB (ev_isS (ev_var rfl) ev_c hc x1 (hd.mono e2) (.own _) TE.kt_BadAlphabet_DoesNotComeBack))) rfl) fun H3 e3' => ?_
    have e3 := Ex.trans e2 e3'
    refine q_asg (v := .int 1) (ev_is (ev_add (ev_add (ev_add (ev_add (ev_var rfl) (ev_intB (ev_isS (ev_var rfl) ev_c hc x1 (hd.mono e3) (.own _) TE.kt_BadAlphabet_TooLarge))) (ev_intB (ev_isS (ev_var rfl) ev_c hc x1 (hd.mono e3) (.own _) TE.kt_BadAlphabet_NotWritten))) (ev_intB (ev_isS (ev_var rfl) ev_c hc x1 (hd.mono e3) (.own _) TE.kt_BadAlphabet_NoSuchText))) (ev_intB (ev_isS (ev_var rfl) ev_c hc x1 (hd.mono e3) (.own _) TE.kt_BadAlphabet_BadName))) rfl) fun H4 e4' => ?_
    have e4 := Ex.trans e3 e4'
    refine q_asg (v := .int 1) (ev_is (ev_add (ev_add (ev_add (ev_add (ev_var rfl) (ev_intB (ev_isS (ev_var rfl) ev_c hc x1 (hd.mono e4) (.own _) TE.kt_BadAlphabet_NameTaken))) (ev_intB (ev_isS (ev_var rfl) ev_c hc x1 (hd.mono e4) (.own _) TE.kt_BadAlphabet_NoName))) (ev_intB (ev_isS (ev_var rfl) ev_c hc x1 (hd.mono e4) (.own _) TE.kt_BadAlphabet_EmptyRing))) (ev_intB (ev_isS (ev_var rfl) ev_c hc x1 (hd.mono e4) (.own _) TE.kt_BadAlphabet_NotInLot))) rfl) fun H5 e5' => ?_
    have e5 := Ex.trans e4 e5'
    refine q_asg (v := .int 1) (ev_is (ev_add (ev_add (ev_add (ev_var rfl) (ev_intB (ev_isS (ev_var rfl) ev_c hc x1 (hd.mono e5) (.own _) TE.kt_BadAlphabet_BadBuild))) (ev_intB (ev_isS (ev_var rfl) ev_c hc x1 (hd.mono e5) (.own _) TE.kt_BadAlphabet_BadGrowth))) (ev_intB (ev_isS (ev_var rfl) ev_c hc x1 (hd.mono e5) (.own _) TE.kt_BadAlphabet_EmptyText))) rfl) fun H6 e6' => ?_
    have e6 := Ex.trans e5 e6'
    refine q_asg (v := .int 1) (ev_is (ev_add (ev_add (ev_var rfl) (ev_intB (ev_isS (ev_var rfl) ev_c hc x1 (hd.mono e6) (.own _) TE.kt_BadAlphabet_NothingToUndo))) (ev_intB (ev_isS (ev_var rfl) ev_c hc x1 (hd.mono e6) (.own _) TE.kt_BadAlphabet_NothingToRedo))) rfl) fun H7 e7' => ?_
    have e7 := Ex.trans e6 e7'
    exact s_ret (ev_is (ev_op (ev_var rfl) ev_c (rv_eq rfl)) rfl) fun H9 e9 => q H9 (Ex.trans e7 e9)
  · refine q_skip (et_is (et_or (et_not (et_B (ev_isS (ev_var rfl) ev_c hc x2 hd (.own _) TE.kt_BadLetter_PressError))) (fun _ => et_not (et_B (ev_isS (ev_var rfl) ev_c hc x2 hd (.ty _) TE.kt_BadLetter_VE)))) rfl) fun H0 e0 => ?_
    refine q_asg (v := .int 1) (ev_is (ev_add (ev_add (ev_add (ev_intB (ev_isS (ev_var rfl) ev_c hc x2 (hd.mono e0) (.own _) TE.kt_BadLetter_BadAlphabet)) (ev_intB (ev_isS (ev_var rfl) ev_c hc x2 (hd.mono e0) (.own _) TE.kt_BadLetter_BadLetter))) (ev_intB (ev_isS (ev_var rfl) ev_c hc x2 (hd.mono e0) (.own _) TE.kt_BadLetter_BadRow))) (ev_intB (ev_isS (ev_var rfl) ev_c hc x2 (hd.mono e0) (.own _) TE.kt_BadLetter_BadTail))) rfl) fun H1 e1' => ?_
    have e1 := Ex.trans e0 e1'
    refine q_asg (v := .int 1) (ev_is (ev_add (ev_add (ev_add (ev_add (ev_var rfl) (ev_intB (ev_isS (ev_var rfl) ev_c hc x2 (hd.mono e1) (.own _) TE.kt_BadLetter_BadRank))) (ev_intB (ev_isS (ev_var rfl) ev_c hc x2 (hd.mono e1) (.own _) TE.kt_BadLetter_NotBits))) (ev_intB (ev_isS (ev_var rfl) ev_c hc x2 (hd.mono e1) (.own _) TE.kt_BadLetter_BadIndex))) (ev_intB (ev_isS (ev_var rfl) ev_c hc x2 (hd.mono e1) (.own _) TE.kt_BadLetter_BadStanding))) rfl) fun H2 e2' => ?_
    have e2 := Ex.trans e1 e2'
    refine q_asg (v := .int 1) (ev_is (ev_add (ev_add (ev_add (ev_var rfl) (ev_intB (ev_isS (ev_var rfl) ev_c hc x2 (hd.mono e2) (.own _) TE.kt_BadLetter_BadRule))) (ev_intB (ev_isS (ev_var rfl) ev_c hc x2 (hd.mono e2) (.own _) TE.kt_BadLetter_AlphabetsDiffer))) (ev_intB (ev_isS (ev_var rfl) ev_c hc x2 (hd.mono e2) (.own _) TE.kt_BadLetter_DoesNotComeBack))) rfl) fun H3 e3' => ?_
    have e3 := Ex.trans e2 e3'
    refine q_asg (v := .int 1) (ev_is (ev_add (ev_add (ev_add (ev_add (ev_var rfl) (ev_intB (ev_isS (ev_var rfl) ev_c hc x2 (hd.mono e3) (.own _) TE.kt_BadLetter_TooLarge))) (ev_intB (ev_isS (ev_var rfl) ev_c hc x2 (hd.mono e3) (.own _) TE.kt_BadLetter_NotWritten))) (ev_intB (ev_isS (ev_var rfl) ev_c hc x2 (hd.mono e3) (.own _) TE.kt_BadLetter_NoSuchText))) (ev_intB (ev_isS (ev_var rfl) ev_c hc x2 (hd.mono e3) (.own _) TE.kt_BadLetter_BadName))) rfl) fun H4 e4' => ?_
    have e4 := Ex.trans e3 e4'
    refine q_asg (v := .int 1) (ev_is (ev_add (ev_add (ev_add (ev_add (ev_var rfl) (ev_intB (ev_isS (ev_var rfl) ev_c hc x2 (hd.mono e4) (.own _) TE.kt_BadLetter_NameTaken))) (ev_intB (ev_isS (ev_var rfl) ev_c hc x2 (hd.mono e4) (.own _) TE.kt_BadLetter_NoName))) (ev_intB (ev_isS (ev_var rfl) ev_c hc x2 (hd.mono e4) (.own _) TE.kt_BadLetter_EmptyRing))) (ev_intB (ev_isS (ev_var rfl) ev_c hc x2 (hd.mono e4) (.own _) TE.kt_BadLetter_NotInLot))) rfl) fun H5 e5' => ?_
    have e5 := Ex.trans e4 e5'
    refine q_asg (v := .int 1) (ev_is (ev_add (ev_add (ev_add (ev_var rfl) (ev_intB (ev_isS (ev_var rfl) ev_c hc x2 (hd.mono e5) (.own _) TE.kt_BadLetter_BadBuild))) (ev_intB (ev_isS (ev_var rfl) ev_c hc x2 (hd.mono e5) (.own _) TE.kt_BadLetter_BadGrowth))) (ev_intB (ev_isS (ev_var rfl) ev_c hc x2 (hd.mono e5) (.own _) TE.kt_BadLetter_EmptyText))) rfl) fun H6 e6' => ?_
    have e6 := Ex.trans e5 e6'
    refine q_asg (v := .int 1) (ev_is (ev_add (ev_add (ev_var rfl) (ev_intB (ev_isS (ev_var rfl) ev_c hc x2 (hd.mono e6) (.own _) TE.kt_BadLetter_NothingToUndo))) (ev_intB (ev_isS (ev_var rfl) ev_c hc x2 (hd.mono e6) (.own _) TE.kt_BadLetter_NothingToRedo))) rfl) fun H7 e7' => ?_
    have e7 := Ex.trans e6 e7'
    exact s_ret (ev_is (ev_op (ev_var rfl) ev_c (rv_eq rfl)) rfl) fun H9 e9 => q H9 (Ex.trans e7 e9)
end
end Ver
namespace Ver
open PySem PySem.Spec PyProof.Rows L2 Evl
section
variable {P : Program} {w : World} {K : PySem.W.Frag} {mg : Str → Option Value} {base : Heap} {C_Cut : Addr} {C_PressError : Addr} {C_BadAlphabet : Addr} {C_BadLetter : Addr} {C_BadRow : Addr} {C_BadTail : Addr} {C_BadRank : Addr} {C_NotBits : Addr} {C_BadIndex : Addr} {C_BadStanding : Addr} {C_BadRule : Addr} {C_AlphabetsDiffer : Addr} {C_DoesNotComeBack : Addr} {C_TooLarge : Addr} {C_NotWritten : Addr} {C_NoSuchText : Addr} {C_BadName : Addr} {C_NameTaken : Addr} {C_NoName : Addr} {C_EmptyRing : Addr} {C_NotInLot : Addr} {C_BadBuild : Addr} {C_BadGrowth : Addr} {C_EmptyText : Addr} {C_NothingToUndo : Addr} {C_NothingToRedo : Addr}
section
variable {σ : L2.St} {H : Hp} {te : TE}
theorem ev_xp {a C dd : Addr} {cls : Value} {d : Option Addr} {fs : List (Str × V)} {f : Str} {v : V} (h : Ev te σ H (.ref a)) (hc : cls = .ref C) (hd : d = some dd) (hx : H dd = some (.xd fs)) (hl : fs.lookup f = some v) : Ev (tXp a cls d C f te) σ H v := fun H1 e Q q =>
  h H1 e _ fun H2 e2 => ⟨rfl, hc, dd, fs, v, hd, (e.trans e2) _ _ hx, hl, q H2 e2⟩
theorem q_tryMake {D : Ends} {tz : TS} {C : Addr} {sp : Sp} {ta : TA} {vs : List V} {i : Nat} {Wout : WX} {l : List (Value × Suite)} (h : EvA ta σ H vs)
    (k : ∀ H1, Ex H H1 → ∀ x dx, H1 x = none → H1 dx = none → dx ≠ x → sp (.ref x :: vs) (L2.upd (L2.upd H1 dx (.own x)) x (.ins C dx [])) (fun v H2 => v = .non ∧ tz D σ H2) (fun cls d H' => wMas K i Wout { D with nx := tz D } l cls d σ H')) :
    tSeq (fun D σ H => tDrop (tMakeS C sp (WE (wMas K i Wout D l)) ta) D σ H) tz D σ H := h H (Ex.refl H) _ fun H1 e1 x dx h1 h2 h3 => k H1 e1 x dx h1 h2 h3
end
theorem dOk_some {dd : Addr} {fs : List (Str × V)} {H : Hp} (h : H dd = some (.xd fs)) : dOk (some dd) H := fun x e => by
  cases e
  exact ⟨fs, h⟩
theorem dOk_none {H : Hp} : dOk none H := fun x e => nomatch e
end
end Ver
namespace Ver
open PySem PySem.Spec PyProof.Rows L2 Evl
/-! ### f(k = v, ..) that may raise, in a try -/
def tCallNS (m : Nat) (sp : Sp) (gV : List V → List V → List V) (E : L2.St → XK) (tk : TA) : TE := fun σ H Q => tk σ H fun zs H2 => zs.length = m ∧ sp (gV [] zs) H2 Q (E σ)
section
variable {X : Cx} {CX : CXT} {k : Nat} {f : Addr} {fd : FuncData} {ps ks : List Str} {sp : Sp} {E : L2.St → XK} {x : Str} {p pos : Pos} {kws : List Keyword} {tk : TA} {g : List Value → List Value → List Value} {gV : List V → List V → List V}
theorem run_kwS {pins : List (Addr × Obj)} {σ : L2.St} {H : Hp} {s : Shared} {Q : VK} {ws : List Value} {zs : List V} (F : FnOk X.prog X.w X.K X.mg X.base CX k f fd ps sp) (hr : Room k X.A) (hb : KBn X.K fd ps 0 ks g gV) (hx : PassesAt CX X σ (E σ))
    (I : Inv X pins σ H s) (rz : Vals zs ws) (l2 : zs.length = ks.length) (h : sp (gV [] zs) H Q (E σ)) : wpAny (model X.prog X.w) X.A (call (.ref f) [] (ks.zip ws)) (EP X pins σ Q) X.xe s := by
  have r2 := hb.rel (vs := []) (us := []) .nil rz
  refine wpAny_call (codeAny_mono (F.run X.A X.stack s H ⟨[], ks.zip ws⟩ (g [] ws) (gV [] zs) Q (E σ) hr I.env0 (hb.to s [] ws I.kIn rfl (rz.length.symm.trans l2)) r2 h) ?_)
  intro r s' hq
  match r, hq with
  | .error e, hq => exact hx pins H s e s' I hq
  | .ok (.ret u), hq => exact I.after hq
theorem pe_callNS (F : FnOk X.prog X.w X.K X.mg X.base CX k f fd ps sp) (room : Room k X.A) (gl : Gl X x) (at_ : X.mg x = some (.ref f)) (keep : PySem.W.keepIn X.K (.ref f) = true)
    (bd : KBn X.K fd ps 0 ks g gV) (pass : ∀ σ, PassesAt CX X σ (E σ)) (kw : PK X kws tk)
    (named : (backToKw pos (keywordEach kws X.env)).all (·.1.isSome) = true := by rfl)
    (names : (backToKw pos (keywordEach kws X.env)).filterMap (·.1) = ks := by rfl)
    (nodebug : (x == ("__debug__" : Str)) = false := by decide)
    (plain : ((backTo pos (starEach [] X.env)).any (·.1) || (backToKw pos (keywordEach kws X.env)).any (·.1.isNone)) = false := by rfl) :
    PE X (.Call (.Name x p) [] kws pos) (tCallNS ks.length sp gV E tk) := by
  refine ⟨fun pins s σ H Q I h => ?_⟩
  refine wpAny_Call_Name_kw (ld_glob I gl at_ ?_ nodebug)
  refine PySem.W.callWith_KW0 (h₀ := X.base) I.ok.mod.kin keep named ?_ plain
  refine thn (kw.run pos pins s σ H _ I h) ?_
  intro ws s2 got
  obtain ⟨zs, H2, I2, rz, l2, q2⟩ := got
  refine ⟨I2.kIn, ?_⟩
  rw [names]
  exact run_kwS F room bd (pass σ) I2 rz l2 q2
end
theorem s_asgNS {σ : L2.St} {H : Hp} {D : Ends} {sp : Sp} {E : L2.St → XK} {tk : TA} {zs : List V} {i n : Nat} {gV : List V → List V → List V} (h : EvA tk σ H zs) (hn : zs.length = n) (k : ∀ H1, Ex H H1 → sp (gV [] zs) H1 (fun v H2 => D.nx (σ.set i (some v)) H2) (E σ)) : tAsg (tCallNS n sp gV E tk) (gName i) D σ H := h H (Ex.refl H) _ fun H1 e1 => ⟨hn, k H1 e1⟩
theorem s_asgCS {σ : L2.St} {H : Hp} {D : Ends} {sp : Sp} {E : L2.St → XK} {ta : TA} {vs : List V} {i : Nat} (h : EvA ta σ H vs) (k : ∀ H1, Ex H H1 → sp vs H1 (fun v H2 => D.nx (σ.set i (some v)) H2) (E σ)) : tAsg (tCallS sp E ta) (gName i) D σ H := h H (Ex.refl H) _ k
end Ver
namespace Ver
open PySem PySem.Spec PyProof.Rows L2 Evl
theorem q_go {σ : L2.St} {H : Hp} {D : Ends} {tb tz : TS} (h : tb { D with nx := tz D } σ H) : tSeq tb tz D σ H := h
theorem vals_rev2 : ∀ {zs : List V} {ws : List Value}, Vals zs ws → Vals zs.reverse ws.reverse
  | _, _, .nil => .nil
  | _, _, .cons h t => by
    rw [List.reverse_cons, List.reverse_cons]
    exact Vals.append (vals_rev2 t) (.cons h .nil)
theorem ev_neg {σ : L2.St} {H : Hp} {ta : TE} {i : Int} (h : Ev ta σ H (.int i)) : Ev (tUn (rU fun i => .int (-i)) ta) σ H (.int (-i)) := ev_un h fun H1 _ Q q => ⟨i, rfl, q H1 (Ex.refl H1)⟩
theorem bad1_ex {al v : List Nat} (h : ¬ ∀ c ∈ v, c ∈ al) : ∃ k, bad1 al v k := by
  refine ⟨_, rfl, ?_⟩
  refine Classical.byContradiction fun hn => h fun c hc => ?_
  have e := List.takeWhile_append_dropWhile (p := inL al) (l := v)
  have hl := congrArg List.length e
  rw [List.length_append] at hl
  have hd : v.dropWhile (inL al) = [] := List.eq_nil_of_length_eq_zero (by omega)
  rw [hd, List.append_nil] at e
  rw [← e] at hc
  exact of_decide_eq_true (tw_all v c hc)
section
variable {P : Program} {w : World} {K : PySem.W.Frag} {mg : Str → Option Value} {base : Heap} {C_Cut : Addr} {C_PressError : Addr} {C_BadAlphabet : Addr} {C_BadLetter : Addr} {C_BadRow : Addr} {C_BadTail : Addr} {C_BadRank : Addr} {C_NotBits : Addr} {C_BadIndex : Addr} {C_BadStanding : Addr} {C_BadRule : Addr} {C_AlphabetsDiffer : Addr} {C_DoesNotComeBack : Addr} {C_TooLarge : Addr} {C_NotWritten : Addr} {C_NoSuchText : Addr} {C_BadName : Addr} {C_NameTaken : Addr} {C_NoName : Addr} {C_EmptyRing : Addr} {C_NotInLot : Addr} {C_BadBuild : Addr} {C_BadGrowth : Addr} {C_EmptyText : Addr} {C_NothingToUndo : Addr} {C_NothingToRedo : Addr}
theorem kb_cut2 {f : Addr} {fd : FuncData} (F : Fun K "cut_of" "cut_of" s_cut_of f fd) : KBn K fd ["alphabet", "text"] 0 ["text", "alphabet"] (fun _ ws => ws.reverse) (fun _ ws => ws.reverse) := by
  obtain ⟨oc, od, kV, doc, pm, an, cdv, ct, osl, rfl, lk, hcd⟩ := F.ex
  refine ⟨fun s us ws X l1 l2 => ?_, fun r1 r2 => vals_rev2 r2⟩
  match us, ws, l1, l2 with
  | [], [v, u], _, _ => exact .of_eq rfl
/-! ### _law_door -/
def spDoor : Sp := fun vs H Q _ => ∃ (al v : List Nat) (b : Bool), vs = [tx al, tx v, .bl b] ∧ low al ∧ al.length ≤ 1000 ∧ v.length ≤ 1000 ∧ RetV (.bl true) H Q
theorem has_door (F : At K mg "_law_door" s__law_door) (T : Top K mg C_Cut) (TE : ETop K mg C_PressError C_BadAlphabet C_BadLetter C_BadRow C_BadTail C_BadRank C_NotBits C_BadIndex C_BadStanding C_BadRule C_AlphabetsDiffer C_DoesNotComeBack C_TooLarge C_NotWritten C_NoSuchText C_BadName C_NameTaken C_NoName C_EmptyRing C_NotInLot C_BadBuild C_BadGrowth C_EmptyText C_NothingToUndo C_NothingToRedo) (GE_BadAlphabet : Er_BadAlphabet P w K mg base C_BadAlphabet) (GE_BadLetter : Er_BadLetter P w K mg base C_BadLetter)
    (h1 : HasX P w K mg base "cut_of" s_cut_of ["alphabet", "text"] 7 (fun vs H Q E => spCut C_Cut vs H Q E ∨ spCutB C_BadAlphabet C_BadLetter vs H Q E)) (h2 : HasP P w K mg base "_law_kin" ["e"] 1 (spKin2 C_BadAlphabet C_BadLetter)) (h3 : HasP P w K mg base "_law_whole" ["value"] 1 (fun _ _ _ => spWhole))
    (h4 : Has P w K mg base "_law_is_alphabet" s__law_is_alphabet ["word"] 1 spIa) (h5 : Has P w K mg base "_law_stray" s__law_stray ["signs", "word"] 1 spFs) (h6 : Has P w K mg base "_law_is_cut" s__law_is_cut ["told", "signs", "word"] 3 (spIs C_Cut)) : Has P w K mg base "_law_door" s__law_door ["signs", "word", "by_name"] 8 spDoor := by
  obtain ⟨f, fd, F, m⟩ := F.ex
  obtain ⟨f1, fd1, F1, GX_cut_of, b_cut_of, m_cut_of, k_cut_of⟩ := h1
  obtain ⟨f2, fd2, GP__law_kin, b__law_kin, m__law_kin, k__law_kin⟩ := h2
  obtain ⟨f3, fd3, GP__law_whole, b__law_whole, m__law_whole, k__law_whole⟩ := h3
  obtain ⟨f4, fd4, _, G__law_is_alphabet, b__law_is_alphabet, m__law_is_alphabet, k__law_is_alphabet⟩ := h4
  obtain ⟨f5, fd5, _, G__law_stray, b__law_stray, m__law_stray, k__law_stray⟩ := h5
  obtain ⟨f6, fd6, _, G__law_is_cut, b__law_is_cut, m__law_is_cut, k__law_is_cut⟩ := h6
  have kb_cut_of := kb_cut2 F1
  refine ⟨f, fd, F, F.ok S__law_door (fun vs H Q E h => ?_) (fun cdv A outer s H vs Q E hr h => ?_), F.binds fun _ _ _ _ _ _ us hl => match us, hl with | [_, _, _], _ => rfl, m, F.kp⟩
  · obtain ⟨al, v, b, rfl, _⟩ := h
    rfl
  obtain ⟨al, v, b, rfl, hlo, z1, z2, q⟩ := h
  refine ⟨_, (pss_cons
    (ps_set (i := 3) S__law_door.nd rfl (Or.inl rfl) (pe_call G__law_is_alphabet (hr.mono (by decide)) rfl m__law_is_alphabet k__law_is_alphabet b__law_is_alphabet .nil pass0 (pa_cons (pv 0) pa_nil)))
    (pss_cons
    (ps_set (i := 4) S__law_door.nd rfl (Or.inl rfl) (pe_call G__law_stray (hr.mono (by decide)) rfl m__law_stray k__law_stray b__law_stray .nil pass0 (pa_cons (pv 0) (pa_cons (pv 1) pa_nil))))
    (pss_cons
    (ps_try_mas (i := 6) rfl rfl S__law_door.nd rfl rfl takes0 (fun W pn xe tk _ => (by exact (pss_one
    (ps_if (pt_val (pv 2)) (pss_one
    (ps_set (i := 5) S__law_door.nd rfl (Or.inl rfl) (pe_callNS GX_cut_of (hr.mono (by decide)) rfl m_cut_of k_cut_of kb_cut_of (fun σ => passAt tk σ) (pk_cons (pv 1) (pk_cons (pv 0) pk_nil))))) (pss_one
    (ps_set (i := 5) S__law_door.nd rfl (Or.inl rfl) (pe_callS GX_cut_of (hr.mono (by decide)) rfl m_cut_of k_cut_of b_cut_of (fun σ => passAt tk σ) (pa_cons (pv 0) (pa_cons (pv 1) pa_nil))))))))) (by exact (HdsAs.cons ⟨rfl, by decide, .inl TE.c_BadAlphabet⟩ (fun a oe cls d pn hz hf => (by exact (pss_one
    (ps_ret (pe_and (pe_not (pv 3)) (pe_and (by exact pe_callP (p := (a, oe)) (a := a) rfl GP__law_kin (roomM (hr.mono (j := 1) (by decide))) List.mem_cons_self hz hf rfl m__law_kin k__law_kin b__law_kin (pa_cons (pv 6) pa_nil)) (pe_and (by exact (pe_callB (id := "isinstance") (call_isiK (K := K) rfl) rfl T.z_isinstance (by decide +kernel) (pa_cons (by exact pe_xp (p := (a, oe)) (a := a) rfl List.mem_cons_self GE_BadAlphabet.xf TE.nf_BadAlphabet_alphabet hz hf (pv 6)) (pa_cons (pe_bltn (v := .ty "str") rfl T.z_str (by decide +kernel) rfl) pa_nil)))) (pe_one (pe_cmpR op_eq (by exact pe_xp (p := (a, oe)) (a := a) rfl List.mem_cons_self GE_BadAlphabet.xf TE.nf_BadAlphabet_alphabet hz hf (pv 6)) (pv 0) (nomark _)))))))))) (HdsAs.cons ⟨rfl, by decide, .inl TE.c_BadLetter⟩ (fun a oe cls d pn hz hf => (by exact (pss_one
    (ps_ret (pe_and (pv 3) (pe_and (by exact pe_callP (p := (a, oe)) (a := a) rfl GP__law_kin (roomM (hr.mono (j := 1) (by decide))) List.mem_cons_self hz hf rfl m__law_kin k__law_kin b__law_kin (pa_cons (pv 6) pa_nil)) (pe_and (by exact pe_callP (p := (a, oe)) (a := a) rfl GP__law_whole (roomM (hr.mono (j := 1) (by decide))) List.mem_cons_self hz hf rfl m__law_whole k__law_whole b__law_whole (pa_cons (by exact pe_xp (p := (a, oe)) (a := a) rfl List.mem_cons_self GE_BadLetter.xf TE.nf_BadLetter_index hz hf (pv 6)) pa_nil)) (pe_one (pe_cmpR op_eq (by exact pe_xp (p := (a, oe)) (a := a) rfl List.mem_cons_self GE_BadLetter.xf TE.nf_BadLetter_index hz hf (pv 6)) (pv 4) (nomark _)))))))))) HdsAs.nil))))
    (pss_one
    (ps_ret (pe_and (pv 3) (pe_and (pe_cmpR op_eq (pv 4) (pe_un un_neg pe_int) (nomark _)) (pe_one (pe_call G__law_is_cut (hr.mono (by decide)) rfl m__law_is_cut k__law_is_cut b__law_is_cut .nil pass0 (pa_cons (pv 5) (pa_cons (pv 0) (pa_cons (pv 1) pa_nil)))))))))))), ?_⟩
  have xA := GE_BadAlphabet.ec
  have xL := GE_BadLetter.ec
  by_cases hA : Alf al
  · by_cases hv : ∀ c ∈ v, c ∈ al
    · refine q_asg (v := .bl true) (ev_call (z := .bl true) (ea_cons (ev_var rfl) ea_nil) (fun H3 e3 Q' q' E' => ⟨al, true, rfl, hlo, z1, ⟨fun _ => hA, fun _ => rfl⟩, q'⟩)) fun H1 e1 => ?_
      refine q_asg (v := .int (-1)) (ev_call (z := .int (-1)) (ea_cons (ev_var rfl) (ea_cons (ev_var rfl) ea_nil)) (fun H3 e3 Q' q' E' => ⟨al, v, -1, rfl, by omega, .inl ⟨rfl, hv⟩, q'⟩)) fun H2 e2 => ?_
      have e12 := e1.trans e2
      refine q_go ?_
      have fin : ∀ (p : Addr) (H3 H4 : Hp), Ex H H3 → Ex H3 H4 → CutAt C_Cut H4 p al (cutW v).1 (cutW v).2 → tRet (tAndV (tVar 3) (tAndV (tOp rEq (tVar 4) (tUn (rU fun i => .int (-i)) (tC (.int 1)))) (tCall (spIs C_Cut) [] E (tCons (tVar 5) (tCons (tVar 0) (tCons (tVar 1) tNil)))))) { nx := fun _ H' => Q .non H', rt := Q } [some (tx al), some (tx v), some (.bl b), some (.bl true), some (.int (-1)), some (.ref p), none] H4 := fun p H3 H4 e3 e4 hC =>
        s_ret (ev_is (ev_andV (a := true) (ev_var rfl) fun _ => ev_andV (a := true) (b := true) (ev_is (ev_op (ev_var rfl) (ev_neg (i := 1) ev_c) (rv_eq rfl)) (by rw [decide_eq_true rfl])) fun _ => ev_call (ea_cons (ev_var rfl) (ea_cons (ev_var rfl) (ea_cons (ev_var rfl) ea_nil))) (sv_is hA hv z2 hC)) rfl) fun H5 e5 => q H5 ((e3.trans e4).trans e5)
      refine s_if (et_B (ev_var rfl)) (fun hb H3 e3 => ?_) (fun hb H3 e3 => ?_)
      · refine s_asgNS (zs := [tx v, tx al]) (ea_cons (ev_var rfl) (ea_cons (ev_var rfl) ea_nil)) rfl fun H4 e4 => .inl ⟨al, v, rfl, hA, hv, z2, fun p H5 hp e5 hC => ?_⟩
        exact fin p H4 H5 ((e12.trans e3).trans e4) e5 hC
      · refine s_asgCS (vs := [tx al, tx v]) (ea_cons (ev_var rfl) (ea_cons (ev_var rfl) ea_nil)) fun H4 e4 => .inl ⟨al, v, rfl, hA, hv, z2, fun p H5 hp e5 hC => ?_⟩
        exact fin p H4 H5 ((e12.trans e3).trans e4) e5 hC
    · obtain ⟨k, hk⟩ := bad1_ex hv
      refine q_asg (v := .bl true) (ev_call (z := .bl true) (ea_cons (ev_var rfl) ea_nil) (fun H3 e3 Q' q' E' => ⟨al, true, rfl, hlo, z1, ⟨fun _ => hA, fun _ => rfl⟩, q'⟩)) fun H1 e1 => ?_
      refine q_asg (v := .int (k : Int)) (ev_call (z := .int (k : Int)) (ea_cons (ev_var rfl) (ea_cons (ev_var rfl) ea_nil)) (fun H3 e3 Q' q' E' => ⟨al, v, (k : Int), rfl, by omega, .inr ⟨k, rfl, hk⟩, q'⟩)) fun H2 e2 => ?_
      have e12 := e1.trans e2
      refine q_go ?_
      have had : ∀ H3, Ex H2 H3 → RetE C_BadLetter [("index", .int (k : Int))] H3 (fun cls d H' => True) → True := fun _ _ _ => trivial
      refine s_if (et_B (ev_var rfl)) (fun hb H3 e3 => ?_) (fun hb H3 e3 => ?_)
      · refine s_asgNS (zs := [tx v, tx al]) (ea_cons (ev_var rfl) (ea_cons (ev_var rfl) ea_nil)) rfl fun H4 e4 => .inr ⟨al, v, rfl, by omega, by omega, .inr ⟨hA, k, hk, fun d H5 e5 hd h5 => ?_⟩⟩
        refine ⟨false, TE.ex_BadLetter_BadAlphabet, fun z => (nomatch z), fun _ => ⟨true, TE.ex_BadLetter_BadLetter, fun _ a ha => ?_, fun z => (nomatch z)⟩⟩
        have dd := dOk_some h5
        have ex5 := ((e12.trans e3).trans e4).trans e5
        have xp : ∀ {σ : L2.St}, σ[6]? = some (some (.ref a)) → Ev (tXp a (.ref C_BadLetter) (some d) C_BadLetter ("index" : Str) (tVar 6)) σ H5 (.int (k : Int)) := fun hs => ev_xp (ev_var hs) rfl rfl h5 rfl
        exact s_ret (ev_is (ev_andV (a := true) (ev_var rfl) fun _ => ev_andV (a := true) (ev_call (z := .bl true) (ea_cons (ev_var rfl) ea_nil) (fun H6 e6 Q' q' E' => ⟨rfl, .inr rfl, dd.mono e6, q'⟩)) fun _ => ev_andV (a := true) (b := true) (ev_call (z := .bl true) (ea_cons (xp rfl) ea_nil) (fun H6 e6 Q' q' E' => ⟨(k : Int), rfl, q'⟩)) fun _ => ev_is (ev_op (xp rfl) (ev_var rfl) (rv_eq rfl)) (by rw [decide_eq_true rfl])) rfl) fun H6 e6 => q H6 (ex5.trans e6)
      · refine s_asgCS (vs := [tx al, tx v]) (ea_cons (ev_var rfl) (ea_cons (ev_var rfl) ea_nil)) fun H4 e4 => .inr ⟨al, v, rfl, by omega, by omega, .inr ⟨hA, k, hk, fun d H5 e5 hd h5 => ?_⟩⟩
        refine ⟨false, TE.ex_BadLetter_BadAlphabet, fun z => (nomatch z), fun _ => ⟨true, TE.ex_BadLetter_BadLetter, fun _ a ha => ?_, fun z => (nomatch z)⟩⟩
        have dd := dOk_some h5
        have ex5 := ((e12.trans e3).trans e4).trans e5
        have xp : ∀ {σ : L2.St}, σ[6]? = some (some (.ref a)) → Ev (tXp a (.ref C_BadLetter) (some d) C_BadLetter ("index" : Str) (tVar 6)) σ H5 (.int (k : Int)) := fun hs => ev_xp (ev_var hs) rfl rfl h5 rfl
        exact s_ret (ev_is (ev_andV (a := true) (ev_var rfl) fun _ => ev_andV (a := true) (ev_call (z := .bl true) (ea_cons (ev_var rfl) ea_nil) (fun H6 e6 Q' q' E' => ⟨rfl, .inr rfl, dd.mono e6, q'⟩)) fun _ => ev_andV (a := true) (b := true) (ev_call (z := .bl true) (ea_cons (xp rfl) ea_nil) (fun H6 e6 Q' q' E' => ⟨(k : Int), rfl, q'⟩)) fun _ => ev_is (ev_op (xp rfl) (ev_var rfl) (rv_eq rfl)) (by rw [decide_eq_true rfl])) rfl) fun H6 e6 => q H6 (ex5.trans e6)
  · refine q_asg (v := .bl false) (ev_call (z := .bl false) (ea_cons (ev_var rfl) ea_nil) (fun H3 e3 Q' q' E' => ⟨al, false, rfl, hlo, z1, ⟨fun z => (nomatch z), fun z => absurd z hA⟩, q'⟩)) fun H1 e1 => ?_
    obtain ⟨r, hr'⟩ : ∃ r : Int, ((r = -1 ∧ ∀ c ∈ v, c ∈ al) ∨ ∃ k : Nat, r = (k : Int) ∧ bad1 al v k) := by
      by_cases hv : ∀ c ∈ v, c ∈ al
      · exact ⟨-1, .inl ⟨rfl, hv⟩⟩
      · obtain ⟨k, hk⟩ := bad1_ex hv
        exact ⟨k, .inr ⟨k, rfl, hk⟩⟩
    refine q_asg (v := .int r) (ev_call (z := .int r) (ea_cons (ev_var rfl) (ea_cons (ev_var rfl) ea_nil)) (fun H3 e3 Q' q' E' => ⟨al, v, r, rfl, by omega, hr', q'⟩)) fun H2 e2 => ?_
    have e12 := e1.trans e2
    refine q_go ?_
    refine s_if (et_B (ev_var rfl)) (fun hb H3 e3 => ?_) (fun hb H3 e3 => ?_)
    · refine s_asgNS (zs := [tx v, tx al]) (ea_cons (ev_var rfl) (ea_cons (ev_var rfl) ea_nil)) rfl fun H4 e4 => .inr ⟨al, v, rfl, by omega, by omega, .inl ⟨hA, fun d H5 e5 hd h5 => ?_⟩⟩
      refine ⟨true, TE.ex_BadAlphabet_BadAlphabet, fun _ a ha => ?_, fun z => (nomatch z)⟩
      have dd := dOk_some h5
      have ex5 := ((e12.trans e3).trans e4).trans e5
      have xp : ∀ {σ : L2.St}, σ[6]? = some (some (.ref a)) → Ev (tXp a (.ref C_BadAlphabet) (some d) C_BadAlphabet ("alphabet" : Str) (tVar 6)) σ H5 (tx al) := fun hs => ev_xp (ev_var hs) rfl rfl h5 rfl
      exact s_ret (ev_is (ev_andV (a := true) (ev_is (ev_notV (ev_var rfl)) rfl) fun _ => ev_andV (a := true) (ev_call (z := .bl true) (ea_cons (ev_var rfl) ea_nil) (fun H6 e6 Q' q' E' => ⟨rfl, .inl rfl, dd.mono e6, q'⟩)) fun _ => ev_andV (a := true) (b := true) (ev_cb (ea_cons (xp rfl) (ea_cons ev_c ea_nil)) (rc_isiS (b := true) (by decide +kernel))) fun _ => ev_is (ev_op (xp rfl) (ev_var rfl) (rv_eq rfl)) (by rw [decide_eq_true rfl])) rfl) fun H6 e6 => q H6 (ex5.trans e6)
    · refine s_asgCS (vs := [tx al, tx v]) (ea_cons (ev_var rfl) (ea_cons (ev_var rfl) ea_nil)) fun H4 e4 => .inr ⟨al, v, rfl, by omega, by omega, .inl ⟨hA, fun d H5 e5 hd h5 => ?_⟩⟩
      refine ⟨true, TE.ex_BadAlphabet_BadAlphabet, fun _ a ha => ?_, fun z => (nomatch z)⟩
      have dd := dOk_some h5
      have ex5 := ((e12.trans e3).trans e4).trans e5
      have xp : ∀ {σ : L2.St}, σ[6]? = some (some (.ref a)) → Ev (tXp a (.ref C_BadAlphabet) (some d) C_BadAlphabet ("alphabet" : Str) (tVar 6)) σ H5 (tx al) := fun hs => ev_xp (ev_var hs) rfl rfl h5 rfl
      exact s_ret (ev_is (ev_andV (a := true) (ev_is (ev_notV (ev_var rfl)) rfl) fun _ => ev_andV (a := true) (ev_call (z := .bl true) (ea_cons (ev_var rfl) ea_nil) (fun H6 e6 Q' q' E' => ⟨rfl, .inl rfl, dd.mono e6, q'⟩)) fun _ => ev_andV (a := true) (b := true) (ev_cb (ea_cons (xp rfl) (ea_cons ev_c ea_nil)) (rc_isiS (b := true) (by decide +kernel))) fun _ => ev_is (ev_op (xp rfl) (ev_var rfl) (rv_eq rfl)) (by rw [decide_eq_true rfl])) rfl) fun H6 e6 => q H6 (ex5.trans e6)
theorem sv_door {al v : List Nat} {b : Bool} {H : Hp} (h1 : low al) (h2 : al.length ≤ 1000) (h3 : v.length ≤ 1000) : SpV spDoor ([tx al, tx v, .bl b] ++ []) H (.bl true) := fun _ _ _ q _ => ⟨al, v, b, rfl, h1, h2, h3, q⟩
end
end Ver
namespace Ver
open PySem PySem.Spec PyProof.Rows L2 Evl
/-! ### what is no object of the class -/
inductive OffC (H : Hp) : V → Prop where
  | tup {b : Addr} {xs : List V} : H b = some (.tup xs) → OffC H (.ref b)
  | str (s : Str) : OffC H (.str s)
  | int (i : Int) : OffC H (.int i)
  | bl (b : Bool) : OffC H (.bl b)
  | non : OffC H .non
theorem OffC.mono {H H' : Hp} {y : V} (h : OffC H y) (e : Ex H H') : OffC H' y := by
  cases h with
  | tup h => exact .tup (e _ _ h)
  | str s => exact .str s
  | int i => exact .int i
  | bl b => exact .bl b
  | non => exact .non
theorem OffC.right {H : Hp} {C : Addr} {y : V} (h : OffC H y) : RightOf H C y := by
  cases h with
  | tup h => exact .tup h
  | str s => exact .str s
  | int i => exact .int i
  | bl b => exact .bl b
  | non => exact .non
theorem OffC.isi {K : PySem.W.Frag} {H : Hp} {C : Addr} {y : V} (h : OffC H y) (G : EqC K C) : RC (rIsi K) [y, .ref C] H (.bl false) := by
  cases h with
  | tup h => exact rc_isiNo G sub_tup fun H1 e => .base (.tup (e _ _ h))
  | str s => exact rc_isiCs G
  | int i => exact rc_isiNo G sub_int fun H1 e => .base (.int i)
  | bl b => exact rc_isiNo G sub_bool fun H1 e => .base (.bl b)
  | non => exact rc_isiNo G sub_non fun H1 e => .base .non
/-- a term that comes to a cut -/
def CutV (C : Addr) (te : TE) (σ : L2.St) (H : Hp) (al : List Nat) (rs : Rw) (t : Nat) : Prop := ∀ H1, Ex H H1 → ∀ Q : VK, (∀ p H2, Ex H1 H2 → CutAt C H2 p al rs t → Q (.ref p) H2) → te σ H1 Q
theorem cv_var {C : Addr} {σ : L2.St} {H : Hp} {te : TE} {al : List Nat} {rs : Rw} {t : Nat} {p : Addr} (h : Ev te σ H (.ref p)) (hc : CutAt C H p al rs t) : CutV C te σ H al rs t := fun H1 e Q q => h H1 e _ fun H2 e2 => q p H2 e2 (hc.mono (e.trans e2))
section
variable {P : Program} {w : World} {K : PySem.W.Frag} {mg : Str → Option Value} {base : Heap} {C_Cut : Addr} {C_PressError : Addr} {C_BadAlphabet : Addr} {C_BadLetter : Addr} {C_BadRow : Addr} {C_BadTail : Addr} {C_BadRank : Addr} {C_NotBits : Addr} {C_BadIndex : Addr} {C_BadStanding : Addr} {C_BadRule : Addr} {C_AlphabetsDiffer : Addr} {C_DoesNotComeBack : Addr} {C_TooLarge : Addr} {C_NotWritten : Addr} {C_NoSuchText : Addr} {C_BadName : Addr} {C_NameTaken : Addr} {C_NoName : Addr} {C_EmptyRing : Addr} {C_NotInLot : Addr} {C_BadBuild : Addr} {C_BadGrowth : Addr} {C_EmptyText : Addr} {C_NothingToUndo : Addr} {C_NothingToRedo : Addr}
/-! ### Cut.__eq__ -/
def spCeq (C : Addr) : Sp := fun vs H Q _ => ∃ (p : Addr) (y : V) (al : List Nat) (rs : Rw) (t : Nat), vs = [.ref p, y] ∧ CutAt C H p al rs t ∧ Alf al ∧ RowsOk al rs ∧
  ((OffC H y ∧ RetV (.bl false) H Q) ∨ ∃ (p2 : Addr) (al2 : List Nat) (rs2 : Rw) (t2 : Nat), y = .ref p2 ∧ CutAt C H p2 al2 rs2 t2 ∧ Alf al2 ∧ RowsOk al2 rs2 ∧ RetV (.bl (decide (al = al2) && (decide (rs = rs2) && decide (t = t2)))) H Q)
theorem rows_in {al : List Nat} {rs : Rw} (ok : RowsOk al rs) : ∀ r ∈ rs, r.2 ∈ al := fun r hr => by
  obtain ⟨i, hi, e⟩ := List.mem_iff_getElem.mp hr
  exact (ok.low i r.1 r.2 (by rw [List.getElem?_eq_getElem hi, e])).2
theorem has_ceq (F : AtM K C_Cut "__eq__" "Cut.__eq__" s_Cut___eq__) (T : Top K mg C_Cut) (G : EqC K C_Cut) : HasM P w K mg base C_Cut "__eq__" ["self", "other"] 1 (spCeq C_Cut) := by
  obtain ⟨f, fd, F, M⟩ := F.ex
  refine ⟨f, fd, F.ok S_Cut___eq__ (fun vs H Q E h => ?_) (fun cdv A outer s H vs Q E hr h => ?_), F.binds fun _ _ _ _ _ _ us hl => match us, hl with | [_, _], _ => rfl, M⟩
  · obtain ⟨p, y, al, rs, t, rfl, _⟩ := h
    rfl
  obtain ⟨p, y, al, rs, t, rfl, hC, hA, ok, q⟩ := h
  refine ⟨_, (pss_one
    (ps_ret (pe_and (pe_callB call_isi rfl T.z_isinstance (by decide +kernel) (pa_cons (pv 1) (pa_cons (pe_glob (v := .ref C_Cut) rfl T.c_Cut rfl) pa_nil))) (pe_and (pe_cmpR op_eq (pe_fld (pv 0) rfl) (pe_fld (pv 1) rfl) (nomark _)) (pe_and (pe_cmpR (op_eqD hr.units) (pe_fld (pv 0) rfl) (pe_fld (pv 1) rfl) (nomark _)) (pe_one (pe_cmpR op_eq (pe_fld (pv 0) rfl) (pe_fld (pv 1) rfl) (nomark _)))))))), ?_⟩
  obtain ⟨dx, ra, pa, sa, xs, g1, g2, g3, _⟩ := hC.ex
  have cl := T.cl_Cut
  rcases q with ⟨off, q⟩ | ⟨p2, al2, rs2, t2, rfl, hC2, hA2, ok2, q⟩
  · exact s_ret (v := .bl false) (ev_is (ev_andV (b := false) (ev_cb (ea_cons (ev_var rfl) (ea_cons ev_c ea_nil)) (off.isi G)) (fun z => nomatch z)) rfl) q
  · obtain ⟨dx2, ra2, pa2, sa2, xs2, k1, k2, k3, _⟩ := hC2.ex
    refine s_ret (ev_andV (a := true) (ev_cb (ea_cons (ev_var rfl) (ea_cons ev_c ea_nil)) (rc_isiC G cl k1)) (fun _ => ev_andV (a := decide (al = al2)) (ev_is (ev_op (ev_fld (ev_var rfl) g1 cl T.n_Cut_alphabet fs_alphabet) (ev_fld (ev_var rfl) k1 cl T.n_Cut_alphabet fs_alphabet) (rv_eq rfl)) (by rw [tx_dec]))
      (fun _ => ev_andV (a := decide (rs = rs2)) (b := decide (t = t2)) (ev_op (ev_fld (ev_var rfl) g1 cl T.n_Cut_rows fs_rows) (ev_fld (ev_var rfl) k1 cl T.n_Cut_rows fs_rows) (rv_eqRows hA hA2 (rows_in ok) (rows_in ok2) g2 g3 k2 k3)) (fun _ => ev_is (ev_op (ev_fld (ev_var rfl) g1 cl T.n_Cut_tail fs_tail) (ev_fld (ev_var rfl) k1 cl T.n_Cut_tail fs_tail) (rv_eq rfl)) (by
        have e : decide (V.int (t : Int) = V.int (t2 : Int)) = decide (t = t2) := by
          rw [Bool.eq_iff_iff, decide_eq_true_eq, decide_eq_true_eq]
          exact ⟨fun z => by injection z with z; omega, fun z => by rw [z]⟩
        rw [e]))))) q
theorem ev_ceq {σ : L2.St} {H : Hp} {ta tb : TE} {C : Addr} {al al2 : List Nat} {rs rs2 : Rw} {t t2 : Nat} {E : XK} (ha : CutV C ta σ H al rs t) (hb : ∀ H1, Ex H H1 → CutV C tb σ H1 al2 rs2 t2) (A : Alf al) (A2 : Alf al2) (ok : RowsOk al rs) (ok2 : RowsOk al2 rs2) : Ev (tOp (rOwnA C (spCeq C) E) ta tb) σ H (.bl (decide (al = al2) && (decide (rs = rs2) && decide (t = t2)))) := fun H1 e Q q =>
  ha H1 e _ fun p H2 e2 c1 => hb H2 (e.trans e2) H2 (Ex.refl H2) _ fun p2 H3 e3 c2 => by
    have c1' := c1.mono e3
    obtain ⟨dx, ra, pa, sa, xs, g1, _⟩ := c1'.ex
    obtain ⟨dx2, ra2, pa2, sa2, xs2, k1, _⟩ := c2.ex
    exact ⟨p, dx, _, rfl, g1, .own k1, p, _, al, rs, t, rfl, c1', A, ok, .inr ⟨p2, al2, rs2, t2, rfl, c2, A2, ok2, fun H4 e4 => ⟨⟨_, rfl⟩, q H4 ((e2.trans e3).trans e4)⟩⟩⟩
theorem ev_ceqO {σ : L2.St} {H : Hp} {ta tb : TE} {C p : Addr} {al : List Nat} {rs : Rw} {t : Nat} {y : V} {E : XK} (ha : Ev ta σ H (.ref p)) (hC : CutAt C H p al rs t) (A : Alf al) (ok : RowsOk al rs) (hb : Ev tb σ H y) (off : OffC H y) : Ev (tOp (rOwnA C (spCeq C) E) ta tb) σ H (.bl false) := fun H1 e Q q =>
  ha H1 e _ fun H2 e2 => hb H2 (e.trans e2) _ fun H3 e3 => by
    have e13 := (e.trans e2).trans e3
    have c1 := hC.mono e13
    obtain ⟨dx, ra, pa, sa, xs, g1, _⟩ := c1.ex
    exact ⟨p, dx, _, rfl, g1, (off.mono e13).right, p, _, al, rs, t, rfl, c1, A, ok, .inl ⟨off.mono e13, fun H4 e4 => ⟨⟨_, rfl⟩, q H4 ((e2.trans e3).trans e4)⟩⟩⟩
theorem cv_cut {σ : L2.St} {H : Hp} {t1 t2 : TE} {C : Addr} {al v : List Nat} {E : XK} (h1 : Ev t1 σ H (tx al)) (h2 : Ev t2 σ H (tx v)) (A : Alf al) (hv : ∀ c ∈ v, c ∈ al) (hz : v.length ≤ 1000) : CutV C (tCall (spCut C) [] E (tCons t1 (tCons t2 tNil))) σ H al (cutW v).1 (cutW v).2 := fun H1 e Q q =>
  (ea_cons h1 (ea_cons h2 ea_nil)) H1 e _ fun H2 e2 => ⟨al, v, rfl, A, hv, hz, fun p H3 hp e3 hc => q p H3 (e2.trans e3) hc⟩
section
variable {σ : L2.St} {H : Hp} {tl : TE} {Q : VK}
theorem run_ev {te : TE} {v : V} (h : Ev te σ H v) (k : ∀ H1, Ex H H1 → Q v H1) : te σ H Q := h H (Ex.refl H) _ k
theorem run_asgMk {D : Ends} {tz : TS} {C : Addr} {sp : Sp} {E : XK} {i : Nat} {t1 t2 t3 : TE} {x1 : V} (h1 : Ev t1 σ H x1)
    (h2 : ∀ H1, Ex H H1 → t2 σ H1 fun y H2 => t3 σ H2 fun z H3 => ∀ x dx, H3 x = none → H3 dx = none → dx ≠ x → sp [.ref x, x1, y, z] (L2.upd (L2.upd H3 dx (.own x)) x (.ins C dx [])) (fun v H4 => v = .non ∧ tz D (σ.set i (some (.ref x))) H4) E) :
    tSeq (tAsg (tMake C sp [] E (tCons t1 (tCons t2 (tCons t3 tNil)))) (gName i)) tz D σ H := h1 H (Ex.refl H) _ fun H1 e1 => h2 H1 e1
/-- [[row[0], row[1]] for row in rows] -/
theorem run_lcPairs {a : Addr} {xs : List V} {rs : Rw} {j : Nat} {vs : List Nat} (h : Ev tl σ H (.ref a)) (hT : H a = some (.tup xs)) (hR : RowsAt H xs rs) (hz : xs.length ≤ 40000) (hw : ∀ v, wipe ((wipe σ vs).set j (some v)) vs = wipe σ vs) (hj : ∀ v : V, ((wipe σ vs).set j (some v))[j]? = some (some v))
    (q : ∀ l ys H2, H l = none → Ex H H2 → H2 l = some (.lst ys) → RowsS H2 ys rs → Q (.ref l) H2) :
    tLc (iTup K tl) (gName j) tYes (tLst (tCons (tOp (rIxT K) (tVar j) (tC (.int 0))) (tCons (tOp (rIxT K) (tVar j) (tC (.int 1))) tNil))) vs σ H Q := h H (Ex.refl H) _ fun H1 e1 => ⟨a, rfl, ⟨xs, st_of (e1 _ _ hT)⟩, fun Dl hD => by
  refine lc_tup (xs := xs) (fun i H' => H1 Dl = none ∧ Ex H1 H' ∧ ∃ ys, H' Dl = some (.lst ys) ∧ ys.length = i ∧ ∀ k, k < i → ∃ r, ys[k]? = some (.ref r) ∧ H' r = some (.lst [.int ((rowAt rs k).1 : Int), tx [(rowAt rs k).2]])) ⟨hD, Ex.new hD, [], upd_same, rfl, fun k hk => absurd hk (Nat.not_lt_zero _)⟩ (fun i H' _ p => st_of (p.2.1 _ _ (e1 _ _ hT))) (fun i x H' hi p => ?_) (fun H' p => ?_)
  · obtain ⟨p1, p2, ys, p3, p4, p5⟩ := p
    obtain ⟨hlt, r, rfl, hr⟩ := hR.get hi
    refine ⟨hw _, (show EvT tYes ((wipe σ vs).set j (some (.ref r))) H' true from et_yes) H' (Ex.refl H') _ fun H3 e3 => ?_⟩
    rw [if_pos rfl]
    have hr3 := e3 _ _ (p2 _ _ (e1 _ _ hr))
    refine (el_lst (ea_cons (ev_op (ev_var (hj _)) ev_c (rv_ixT (st_of hr3) (atI_nat (j := 0) rfl))) (ea_cons (ev_op (ev_var (hj _)) ev_c (rv_ixT (st_of hr3) (atI_nat (j := 1) rfl))) ea_nil)) (by show 2 ≤ 100000; decide)) H3 (Ex.refl H3) _ fun l H4 hl e4 g4 => ?_
    have e34 := e3.trans e4
    have hl' : H' l = none := fresh_back e3 hl
    have ne : l ≠ Dl := fun z => by
      rw [z, p3] at hl'
      cases hl'
    refine ⟨ys, e34 _ _ p3, sz_lt (by have := hR.len; omega), p1, (p2.trans e34).mut p1, ys ++ [.ref l], upd_same, by rw [List.length_append, p4]; rfl, fun k hk => ?_⟩
    by_cases c : k < i
    · obtain ⟨r2, y1, y2⟩ := p5 k c
      by_cases n4 : r2 = Dl
      · rw [n4, p3] at y2
        have y2 := HO.lst.inj (Option.some.inj y2)
        rw [y2] at y1
        have hk2 := (List.getElem?_eq_some_iff.mp y1).1
        match k, hk2, y1 with
        | 0, _, y1 => cases y1
        | 1, _, y1 => cases y1
      · exact ⟨r2, by rw [List.getElem?_append_left (by omega)]; exact y1, by rw [upd_ne n4]; exact e34 _ _ y2⟩
    · have ek : k = i := by omega
      subst ek
      exact ⟨l, by rw [List.getElem?_append_right (by omega), p4, Nat.sub_self]; rfl, by rw [upd_ne ne]; exact g4⟩
  · obtain ⟨p1, p2, ys, p3, p4, p5⟩ := p
    refine q Dl ys H' (fresh_back e1 p1) (e1.trans p2) p3 ⟨by rw [p4, hR.len], fun i x hx => ?_⟩
    have hi := (List.getElem?_eq_some_iff.mp hx).1
    obtain ⟨r, y1, y2⟩ := p5 i (by omega)
    rw [y1] at hx
    exact ⟨by have := hR.len; omega, r, (Option.some.inj hx).symm, .inl y2⟩⟩
end
end
end Ver
namespace Ver
open PySem PySem.Spec PyProof.Rows L2 Evl
section
variable {K : PySem.W.Frag} {σ : L2.St} {H : Hp} {Q : VK}
theorem cv_mk {t1 t2 t3 : TE} {C ra : Addr} {al : List Nat} {rs : Rw} {t : Nat} {xs : List V} {E : XK} (h1 : Ev t1 σ H (tx al)) (h2 : Ev t2 σ H (.ref ra)) (h3 : Ev t3 σ H (.int (t : Int))) (hS : Seq H ra xs) (hR : RowsS H xs rs) (hA : Alf al) (ok : RowsOk al rs) (ht : t ≤ rs.length) (hz : rs.length ≤ 1000) (hfl : (pcs rs).flatten.length ≤ 40000) :
    CutV C (tMake C (spInit C) [] E (tCons t1 (tCons t2 (tCons t3 tNil)))) σ H al rs t := fun H1 e Q q => (ea_cons h1 (ea_cons h2 (ea_cons h3 ea_nil))) H1 e _ fun H2 e2 x dx hx hdx ne =>
  ⟨al, x, ra, dx, t, xs, rs, H2, rfl, (Ex.new hdx).trans (Ex.new (by rw [upd_ne ne.symm]; exact hx)), hx, upd_same, hS.mono (e.trans e2), hR.mono (e.trans e2), hA, ok, ht, hz, hfl, fun H7 e7 hcu => ⟨rfl, q x H7 (e2.trans e7) hcu⟩⟩
theorem el_things {t1 t2 t3 t4 t5 t6 t7 t8 : TE} {y1 y2 y4 y5 y6 y7 y8 : V} {zs : List V} (h1 : Ev t1 σ H y1) (h2 : Ev t2 σ H y2) (h3 : EvU t3 σ H zs) (h4 : Ev t4 σ H y4) (h5 : Ev t5 σ H y5) (h6 : Ev t6 σ H y6) (h7 : Ev t7 σ H y7) (h8 : Ev t8 σ H y8)
    (k : ∀ p b H1, Ex H H1 → H1 b = some (.tup zs) → H1 p = some (.lst [y1, y2, .ref b, y4, y5, y6, y7, y8]) → Q (.ref p) H1) : tLst (tCons t1 (tCons t2 (tCons t3 (tCons t4 (tCons t5 (tCons t6 (tCons t7 (tCons t8 tNil)))))))) σ H Q :=
  h1 H (Ex.refl H) _ fun H1 e1 => h2 H1 e1 _ fun H2 e2 => h3 H2 (e1.trans e2) _ fun b H3 hb e3 g3 => h4 H3 ((e1.trans e2).trans e3) _ fun H4 e4 => h5 H4 (((e1.trans e2).trans e3).trans e4) _ fun H5 e5 => h6 H5 ((((e1.trans e2).trans e3).trans e4).trans e5) _ fun H6 e6 =>
    h7 H6 (((((e1.trans e2).trans e3).trans e4).trans e5).trans e6) _ fun H7 e7 => h8 H7 ((((((e1.trans e2).trans e3).trans e4).trans e5).trans e6).trans e7) _ fun H8 e8 =>
      ⟨by show 8 ≤ sizeLine; decide, fun p hp => k p b _ ((((((((e1.trans e2).trans e3).trans e4).trans e5).trans e6).trans e7).trans e8).trans (Ex.new hp)) (Ex.new hp _ _ (e8 _ _ (e7 _ _ (e6 _ _ (e5 _ _ (e4 _ _ g3)))))) upd_same⟩
theorem q_forP {tl : TE} {tu tz : TS} {D : Ends} {j : Nat} {G : Addr → List V → Hp → Prop} (h : ∀ Q : VK, (∀ p xs H1, Ex H H1 → H1 p = some (.lst xs) → G p xs H1 → Q (.ref p) H1) → tl σ H Q)
    (k : ∀ p xs H1, Ex H H1 → H1 p = some (.lst xs) → G p xs H1 → ∃ Pv : Nat → L2.St → Hp → Prop, Pv 0 σ H1 ∧ (∀ i σ' H', i ≤ xs.length → Pv i σ' H' → SqL K H' p xs) ∧ (∀ i x σ' H', xs[i]? = some x → Pv i σ' H' → tu { D with nx := Pv (i + 1), ct := Pv (i + 1), bk := tz D } (σ'.set j (some x)) H') ∧ ∀ σ' H', Pv xs.length σ' H' → tz D σ' H') :
    tSeq (tFor (iList K tl) (gName j) tu) tz D σ H := by
  refine h _ fun p xs H1 e g c => ?_
  obtain ⟨Pv, a, b, c, d⟩ := k p xs H1 e g c
  exact ⟨p, rfl, ⟨xs, sq_of g⟩, for_list Pv a b c d⟩
theorem et_says {ta tb : TE} {a b : Bool} {E : XK} (h1 : Ev ta σ H (.bl a)) (h2 : Ev tb σ H (.bl b)) (h : a = b) : EvT (tNot (tB (tCall spSays [] E (tCons ta (tCons tb tNil))))) σ H false := et_is (et_not (et_B (ev_call (ea_cons h1 (ea_cons h2 ea_nil)) sv_says))) (by rw [decide_eq_true h]; rfl)
theorem ev_eqSb {ta tb : TE} {a b : List Nat} (ha : Ev ta σ H (tx a)) (hb : Ev tb σ H (tx b)) : Ev (tOp rEq ta tb) σ H (.bl (decide (a = b))) := ev_is (ev_op ha hb (rv_eq rfl)) (by rw [tx_dec])
theorem ev_eqNb {ta tb : TE} {a b : Nat} (ha : Ev ta σ H (.int (a : Int))) (hb : Ev tb σ H (.int (b : Int))) : Ev (tOp rEq ta tb) σ H (.bl (decide (a = b))) := ev_is (ev_op ha hb (rv_eq rfl)) (by
  have e : decide (V.int (a : Int) = V.int (b : Int)) = decide (a = b) := by
    rw [Bool.eq_iff_iff, decide_eq_true_eq, decide_eq_true_eq]
    exact ⟨fun z => by injection z with z; omega, fun z => by rw [z]⟩
  rw [e])
end
section
variable {P : Program} {w : World} {K : PySem.W.Frag} {mg : Str → Option Value} {base : Heap} {C_Cut : Addr} {C_PressError : Addr} {C_BadAlphabet : Addr} {C_BadLetter : Addr} {C_BadRow : Addr} {C_BadTail : Addr} {C_BadRank : Addr} {C_NotBits : Addr} {C_BadIndex : Addr} {C_BadStanding : Addr} {C_BadRule : Addr} {C_AlphabetsDiffer : Addr} {C_DoesNotComeBack : Addr} {C_TooLarge : Addr} {C_NotWritten : Addr} {C_NoSuchText : Addr} {C_BadName : Addr} {C_NameTaken : Addr} {C_NoName : Addr} {C_EmptyRing : Addr} {C_NotInLot : Addr} {C_BadBuild : Addr} {C_BadGrowth : Addr} {C_EmptyText : Addr} {C_NothingToUndo : Addr} {C_NothingToRedo : Addr}
/-! ### _law_equality -/
def spEqu (C : Addr) : Sp := fun vs H Q _ => ∃ (p : Addr) (al al2 v o : List Nat) (n : Int), vs = [.ref p, tx al, tx v, tx o, tx al2, .int n] ∧ Alf al ∧ Alf al2 ∧ (∀ c ∈ v, c ∈ al) ∧ (∀ c ∈ o, c ∈ al) ∧ (∀ c ∈ v, c ∈ al2) ∧ v.length ≤ 1000 ∧ o.length ≤ 1000 ∧ CutAt C H p al (cutW v).1 (cutW v).2 ∧ RetV (.bl true) H Q
theorem has_equ (F : At K mg "_law_equality" s__law_equality) (T : Top K mg C_Cut) (h1 : Has P w K mg base "_law_cut" s__law_cut ["word"] 1 spLc) (h2 : HasI P w K mg base C_Cut ["self", "alphabet", "rows", "tail"] 5 (spInit C_Cut)) (h3 : HasM P w K mg base C_Cut "__eq__" ["self", "other"] 1 (spCeq C_Cut))
    (h4 : Has P w K mg base "_law_says" s__law_says ["answer", "due"] 1 spSays) (h5 : Has P w K mg base "cut_of" s_cut_of ["alphabet", "text"] 7 (spCut C_Cut)) : Has P w K mg base "_law_equality" s__law_equality ["told", "signs", "word", "other", "other_signs", "turn"] 8 (spEqu C_Cut) := by
  obtain ⟨f, fd, F, m⟩ := F.ex
  obtain ⟨f1, fd1, _, G__law_cut, b__law_cut, m__law_cut, k__law_cut⟩ := h1
  obtain ⟨f2, fd2, G_Cut___init__, b_Cut___init__, mk_Cut⟩ := h2
  obtain ⟨f3, fd3, G_Cut___eq__, b_Cut___eq__, M_Cut___eq__⟩ := h3
  obtain ⟨f4, fd4, _, G__law_says, b__law_says, m__law_says, k__law_says⟩ := h4
  obtain ⟨f5, fd5, _, G_cut_of, b_cut_of, m_cut_of, k_cut_of⟩ := h5
  refine ⟨f, fd, F, F.ok S__law_equality (fun vs H Q E h => ?_) (fun cdv A outer s H vs Q E hr h => ?_), F.binds fun _ _ _ _ _ _ us hl => match us, hl with | [_, _, _, _, _, _], _ => rfl, m, F.kp⟩
  · obtain ⟨p, al, al2, v, o, n, rfl, _⟩ := h
    rfl
  obtain ⟨p, al, al2, v, o, n, rfl, hA, hA2, hv, ho, hv2, z1, z2, hC, q⟩ := h
  refine ⟨_, (pss_cons
    (ps_set (i := 6) S__law_equality.nd rfl (Or.inl rfl) (pe_call G__law_cut (hr.mono (by decide)) rfl m__law_cut k__law_cut b__law_cut .nil pass0 (pa_cons (pv 2) pa_nil)))
    (pss_cons
    (ps_set (i := 7) S__law_equality.nd rfl (Or.inl rfl) (pe_make mk_Cut G_Cut___init__ (hr.mono (by decide)) rfl T.c_Cut b_Cut___init__ .nil pass0 (pa_cons (pv 1) (pa_cons (pe_lc (own := [("row", 10)]) (g := gName 10) (tt := tYes) rfl S__law_equality.nd (pi_tup (pe_ix (r := rIxL K) ix_list (pv 6) pe_int (fun _ _ => rfl))) (blkOk_by (N := N__law_equality) (sc := defScope s__law_equality) (by decide +kernel)) (fun _ _ _ _ _ => pg_name (i := 10) S__law_equality.nd rfl (Or.inl rfl)) (fun _ _ _ _ _ => pts_nil) (fun _ _ _ _ _ => (pe_lst (pa_cons (pe_ix (r := rIxT K) ix_tup (pv 10) pe_int (fun _ _ => rfl)) (pa_cons (pe_ix (r := rIxT K) ix_tup (pv 10) pe_int (fun _ _ => rfl)) pa_nil))))) (pa_cons (pe_ix (r := rIxL K) ix_list (pv 6) pe_int (fun _ _ => rfl)) pa_nil)))))
    (pss_cons
    (ps_if (PW.pt (pw_or (pt_not (pt_val (pe_call G__law_says (hr.mono (by decide)) rfl m__law_says k__law_says b__law_says .nil pass0 (pa_cons (pe_cmpR (op_ownA M_Cut___eq__ G_Cut___eq__ (hr.mono (by decide)) b_Cut___eq__ pass0) (pv 0) (pv 7) (nomark _)) (pa_cons pe_bl pa_nil))))) (pw_or1 (pt_not (pt_val (pe_call G__law_says (hr.mono (by decide)) rfl m__law_says k__law_says b__law_says .nil pass0 (pa_cons (pe_cmpR (op_ownA M_Cut___eq__ G_Cut___eq__ (hr.mono (by decide)) b_Cut___eq__ pass0) (pv 7) (pv 0) (nomark _)) (pa_cons pe_bl pa_nil)))))))) (pss_one
    (ps_ret pe_bl)) pss_nil)
    (pss_cons
    (ps_if (pt_not (pt_val (pe_call G__law_says (hr.mono (by decide)) rfl m__law_says k__law_says b__law_says .nil pass0 (pa_cons (pe_cmpR (op_ownA M_Cut___eq__ G_Cut___eq__ (hr.mono (by decide)) b_Cut___eq__ pass0) (pv 0) (pe_call G_cut_of (hr.mono (by decide)) rfl m_cut_of k_cut_of b_cut_of .nil pass0 (pa_cons (pv 1) (pa_cons (pv 3) pa_nil))) (nomark _)) (pa_cons (pe_cmpR op_eq (pv 2) (pv 3) (nomark _)) pa_nil))))) (pss_one
    (ps_ret pe_bl)) pss_nil)
    (pss_cons
    (ps_if (pt_not (pt_val (pe_call G__law_says (hr.mono (by decide)) rfl m__law_says k__law_says b__law_says .nil pass0 (pa_cons (pe_cmpR (op_ownA M_Cut___eq__ G_Cut___eq__ (hr.mono (by decide)) b_Cut___eq__ pass0) (pv 0) (pe_call G_cut_of (hr.mono (by decide)) rfl m_cut_of k_cut_of b_cut_of .nil pass0 (pa_cons (pv 4) (pa_cons (pv 2) pa_nil))) (nomark _)) (pa_cons (pe_cmpR op_eq (pv 1) (pv 4) (nomark _)) pa_nil))))) (pss_one
    (ps_ret pe_bl)) pss_nil)
    (pss_cons
    (ps_set (i := 8) S__law_equality.nd rfl (Or.inl rfl) (pe_op op_mod (pe_callTy call_int1 rfl T.z_int (by decide +kernel) (pa_cons (pv 5) pa_nil)) (pe_callB call_len_seq rfl T.z_len PySem.boot_len (pa_cons (pe_ix (r := rIxL K) ix_list (pv 6) pe_int (fun _ _ => rfl)) pa_nil))))
    (pss_cons
    (ps_if (pt_not (pt_val (pe_call G__law_says (hr.mono (by decide)) rfl m__law_says k__law_says b__law_says .nil pass0 (pa_cons (pe_cmpR (op_ownA M_Cut___eq__ G_Cut___eq__ (hr.mono (by decide)) b_Cut___eq__ pass0) (pe_make mk_Cut G_Cut___init__ (hr.mono (by decide)) rfl T.c_Cut b_Cut___init__ .nil pass0 (pa_cons (pv 1) (pa_cons (pe_ix (r := rIxL K) ix_list (pv 6) pe_int (fun _ _ => rfl)) (pa_cons (pv 8) pa_nil)))) (pv 0) (nomark _)) (pa_cons (pe_cmpR op_eq (pv 8) (pe_ix (r := rIxL K) ix_list (pv 6) pe_int (fun _ _ => rfl)) (nomark _)) pa_nil))))) (pss_one
    (ps_ret pe_bl)) pss_nil)
    (pss_cons
    (ps_for PassesOwn.never rfl (pi_list (pe_lst (pa_cons (pv 2) (pa_cons pe_non (pa_cons (pe_tup (pa_cons (pv 1) (pa_cons (pe_ix (r := rIxL K) ix_list (pv 6) pe_int (fun _ _ => rfl)) (pa_cons (pe_ix (r := rIxL K) ix_list (pv 6) pe_int (fun _ _ => rfl)) pa_nil)))) (pa_cons (pe_ix (r := rIxL K) ix_list (pv 6) pe_int (fun _ _ => rfl)) (pa_cons (pe_ix (r := rIxL K) ix_list (pv 6) pe_int (fun _ _ => rfl)) (pa_cons pe_bl (pa_cons pe_bl (pa_cons pe_str pa_nil)))))))))) (pg_name (i := 9) S__law_equality.nd rfl (Or.inl rfl)) (pss_one
    (ps_if (pt_not (pt_val (pe_call G__law_says (hr.mono (by decide)) rfl m__law_says k__law_says b__law_says .nil pass0 (pa_cons (pe_cmpR (op_ownA M_Cut___eq__ G_Cut___eq__ (hr.mono (by decide)) b_Cut___eq__ pass0) (pv 0) (pv 9) (nomark _)) (pa_cons pe_bl pa_nil))))) (pss_one
    (ps_ret pe_bl)) pss_nil)))
    (pss_one
    (ps_ret pe_bl)))))))))), ?_⟩
  refine q_callD (vs := [tx v]) (dvs := []) (ea_cons (ev_var rfl) ea_nil) fun H1 e1 => ⟨al, v, rfl, hv, by omega, fun pm H2 hp e2 hc => ?_⟩
  obtain ⟨ra, pa, xs, c1, c2, c3, c4⟩ := hc.ex
  have ko := cut_ok (al := al) v hv
  have few : (cutW v).1.length ≤ v.length := ko.few
  have low : (cutW v).2 ≤ (cutW v).1.length := ko.low
  have ok : RowsOk al (cutW v).1 := ko.ok
  have okO : RowsOk al (cutW o).1 := (cut_ok (al := al) o ho).ok
  have ok2 : RowsOk al2 (cutW v).1 := (cut_ok (al := al2) v hv2).ok
  have inj := cut_inj (al := al) hv ho
  have wrd : v = (pcs (cutW v).1).flatten ++ (pcs (cutW v).1).getD (cutW v).2 [] := ko.word
  have wl := congrArg List.length wrd
  rw [List.length_append] at wl
  have hpl := pcs_len (cutW v).1
  have e12 := e1.trans e2
  have hxl := c3.len
  have m0 : ∀ {σ : L2.St} {H' : Hp}, Ex H2 H' → σ[6]? = some (some (.ref pm)) → Ev (tOp (rIxL K) (tVar 6) (tC (.int 0))) σ H' (.ref ra) := fun e h => ev_op (ev_var h) ev_c (rv_ixL (sq_of (e _ _ c1)) (atI_nat (j := 0) rfl))
  have m1 : ∀ {σ : L2.St} {H' : Hp}, Ex H2 H' → σ[6]? = some (some (.ref pm)) → Ev (tOp (rIxL K) (tVar 6) (tC (.int 1))) σ H' (.int ((cutW v).2 : Int)) := fun e h => ev_op (ev_var h) ev_c (rv_ixL (sq_of (e _ _ c1)) (atI_nat (j := 1) rfl))
  have m2 : ∀ {σ : L2.St} {H' : Hp}, Ex H2 H' → σ[6]? = some (some (.ref pm)) → Ev (tOp (rIxL K) (tVar 6) (tC (.int 2))) σ H' (.ref pa) := fun e h => ev_op (ev_var h) ev_c (rv_ixL (sq_of (e _ _ c1)) (atI_nat (j := 2) rfl))
  refine run_asgMk (x1 := tx al) (ev_var rfl) fun H4 e4 => ?_
  refine run_lcPairs (a := ra) (xs := xs) (rs := (cutW v).1) (m0 e4 rfl) (e4 _ _ c2) (c3.mono e4) (by omega) (fun a => rfl) (fun a => rfl) fun l ys H5 hl e5 g5 r5 => ?_
  have e25 := e4.trans e5
  refine run_ev (v := .int ((cutW v).2 : Int)) (m1 e25 rfl) fun H6 e6 => ?_
  have e26 := e25.trans e6
  refine fun x dx hx hdx ne => ⟨al, x, l, dx, (cutW v).2, ys, (cutW v).1, H6, rfl, (Ex.new hdx).trans (Ex.new (by rw [upd_ne ne.symm]; exact hx)), hx, upd_same, .inl (e6 _ _ g5), r5.mono e6, hA, ok, low, by omega, by omega, fun H7 e7 hS => ⟨rfl, ?_⟩⟩
  have e27 := e26.trans e7
  have e07 := e12.trans e27
  have hT := hC.mono e07
  have cT : ∀ {σ : L2.St} {H' : Hp}, Ex H7 H' → σ[0]? = some (some (.ref p)) → CutV C_Cut (tVar 0) σ H' al (cutW v).1 (cutW v).2 := fun e h => cv_var (ev_var h) (hT.mono e)
  have cS : ∀ {σ : L2.St} {H' : Hp}, Ex H7 H' → σ[7]? = some (some (.ref x)) → CutV C_Cut (tVar 7) σ H' al (cutW v).1 (cutW v).2 := fun e h => cv_var (ev_var h) (hS.mono e)
  have self : (decide (al = al) && (decide ((cutW v).1 = (cutW v).1) && decide ((cutW v).2 = (cutW v).2))) = true := by simp
  refine q_skip (et_is (et_or (et_says (b := true) (ev_ceq (cT (Ex.refl _) rfl) (fun H' e => cS e rfl) hA hA ok ok) ev_c self) fun _ => et_says (b := true) (ev_ceq (cS (Ex.refl _) rfl) (fun H' e => cT e rfl) hA hA ok ok) ev_c self) rfl) fun H8 e8 => ?_
  refine q_skip (et_says (ev_ceq (cT e8 rfl) (fun H' e => cv_cut (ev_var rfl) (ev_var rfl) hA ho z2) hA hA ok okO) (ev_eqSb (ev_var rfl) (ev_var rfl)) (by
    rw [Bool.eq_iff_iff, Bool.and_eq_true, Bool.and_eq_true, decide_eq_true_eq, decide_eq_true_eq, decide_eq_true_eq, decide_eq_true_eq]
    exact ⟨fun z => inj (Prod.ext z.2.1 z.2.2), fun z => ⟨rfl, by rw [z], by rw [z]⟩⟩)) fun H9 e9 => ?_
  have e89 := e8.trans e9
  refine q_skip (et_says (ev_ceq (cT e89 rfl) (fun H' e => cv_cut (ev_var rfl) (ev_var rfl) hA2 hv2 z1) hA hA2 ok ok2) (ev_eqSb (ev_var rfl) (ev_var rfl)) (by
    rw [Bool.eq_iff_iff, Bool.and_eq_true, Bool.and_eq_true, decide_eq_true_eq, decide_eq_true_eq, decide_eq_true_eq]
    exact ⟨fun z => z.1, fun z => ⟨z, rfl, rfl⟩⟩)) fun H10 e10 => ?_
  have e8a := e89.trans e10
  have e2a := e27.trans e8a
  obtain ⟨i, hi, ei⟩ := int_mod (x := n) (n := (cutW v).1.length + 1) (by omega)
  refine q_asg (v := .int (i : Int)) (ev_is (ev_mod (j := (((pcs (cutW v).1).map tx).length : Int)) (by rw [List.length_map]; omega) (ev_int (ev_var rfl)) (ev_cb (ea_cons (m2 e2a rfl) ea_nil) (rc_lenL (sq_of (e2a _ _ c4))))) (by rw [List.length_map, hpl, ei])) fun H11 e11 => ?_
  have e8b := e8a.trans e11
  have e2b := e2a.trans e11
  refine q_skip (et_says (ev_ceq (cv_mk (xs := xs) (ev_var rfl) (m0 e2b rfl) (ev_var rfl) (.inr (e2b _ _ c2)) (c3.mono e2b).toS hA ok (by omega) (by omega) (by omega)) (fun H' e => cT (e8b.trans e) rfl) hA hA ok ok) (ev_eqNb (ev_var rfl) (m1 e2b rfl)) (by
    rw [Bool.eq_iff_iff, Bool.and_eq_true, Bool.and_eq_true]
    simp only [decide_eq_true_eq]
    exact ⟨fun z => z.2.2, fun z => ⟨trivial, trivial, z⟩⟩)) fun H12 e12' => ?_
  have e8c := e8b.trans e12'
  have e2c := e2b.trans e12'
  refine q_forP (K := K) (G := fun p' ts H1 => ∃ (b : Addr) (z : Str), H1 b = some (.tup [tx al, .ref ra, .int ((cutW v).2 : Int)]) ∧ ts = [tx v, .non, .ref b, .ref ra, .int ((cutW v).2 : Int), .bl true, .bl false, .str z]) (fun Q k => el_things (ev_var rfl) ev_c (eu_tup (ea_cons (ev_var rfl) (ea_cons (m0 e2c rfl) (ea_cons (m1 e2c rfl) ea_nil))) (by show 3 ≤ 100000; decide)) (m0 e2c rfl) (m1 e2c rfl) ev_c ev_c ev_c fun pl b H13 e13 k1 k2 => k pl _ H13 e13 k2 ⟨b, _, k1, rfl⟩) fun pl ts H13 e13 k2 G => ?_
  obtain ⟨b, z, k1, rfl⟩ := G
  have e8d := e8c.trans e13
  have hra := e13 _ _ (e2c _ _ c2)
  have off : ∀ y ∈ [tx v, V.non, .ref b, .ref ra, .int ((cutW v).2 : Int), .bl true, .bl false, .str z], OffC H13 y := fun y hy => by
    simp only [List.mem_cons, List.not_mem_nil, or_false] at hy
    rcases hy with rfl | rfl | rfl | rfl | rfl | rfl | rfl | rfl
    · exact .str _
    · exact .non
    · exact .tup k1
    · exact .tup hra
    · exact .int _
    · exact .bl _
    · exact .bl _
    · exact .str _
  refine ⟨fun _ σ' H' => Ex H13 H' ∧ ∃ u, σ' = [some (.ref p), some (tx al), some (tx v), some (tx o), some (tx al2), some (.int n), some (.ref pm), some (.ref x), some (.int (i : Int)), u, none], ⟨Ex.refl _, none, rfl⟩, fun i' σ' H' _ y => sq_of (y.1 _ _ k2), fun i' y σ' H' hy w => ?_, fun σ' H' w => ?_⟩
  · obtain ⟨e14, u, rfl⟩ := w
    have hoff := (off y (List.mem_of_getElem? hy)).mono e14
    exact s_when (b := false) (et_says (a := false) (ev_ceqO (ev_var rfl) (hT.mono (e8d.trans e14)) hA ok (ev_var rfl) hoff) ev_c rfl) (fun z => nomatch z) fun _ H15 e15 => ⟨e14.trans e15, _, rfl⟩
  · obtain ⟨e14, u, rfl⟩ := w
    exact s_ret ev_c fun H15 e15 => q H15 (((e07.trans e8d).trans e14).trans e15)
theorem sv_equ {p : Addr} {al al2 v o : List Nat} {n : Int} {H : Hp} (hA : Alf al) (hA2 : Alf al2) (hv : ∀ c ∈ v, c ∈ al) (ho : ∀ c ∈ o, c ∈ al) (hv2 : ∀ c ∈ v, c ∈ al2) (z1 : v.length ≤ 1000) (z2 : o.length ≤ 1000) (hC : CutAt C_Cut H p al (cutW v).1 (cutW v).2) : SpV (spEqu C_Cut) ([.ref p, tx al, tx v, tx o, tx al2, .int n] ++ []) H (.bl true) := fun _ e _ q _ => ⟨p, al, al2, v, o, n, rfl, hA, hA2, hv, ho, hv2, z1, z2, hC.mono e, q⟩
end
end Ver
namespace Ver
open PySem PySem.Spec PyProof.Rows L2 Evl
def SZ : List Int := [12, 46, 46] ++ List.replicate 46 6
theorem sz_len : SZ.length = 49 := rfl
theorem sz_pos : ∀ i, i < 49 → 0 < at0 SZ i ∧ at0 SZ i < 18446744073709551616 := by decide +kernel
theorem sz_6 : ∀ i, i < 49 → 3 ≤ i → at0 SZ i = 6 := by decide +kernel
theorem w_row (c : Int) : WRow (digits c SZ) := by
  have h := fun i (hi : i < 49) => digits_at (c := c) (ss := SZ) (i := i) (by rw [sz_len]; exact hi) (sz_pos i hi).1
  refine ⟨by rw [digits_len, sz_len], ?_, ?_, fun i h3 h4 => ?_⟩
  · have := h 0 (by decide)
    exact this
  · have := h 1 (by decide)
    exact this
  · have := h i h4
    have e := sz_6 i h4 h3
    omega
def SH : List Int := [12, 36, 36, 36, 36, 36, 36, 8, 2, 2, 401, 4]
def SN : List Int := [5, 401] ++ List.replicate 12 6
def SO : List Int := [3] ++ List.replicate 6 36
def SP : List Int := [3] ++ [401, 95, 2, 401, 95, 2, 401, 95, 2]
def SD : List Int := [10, 7, 95, 36, 9] ++ List.replicate 8 95
def SR : List Int := [5, 401, 6, 6, 6, 6, 6, 401]
theorem pos_SH : ∀ i, i < 12 → 0 < at0 SH i ∧ at0 SH i < 18446744073709551616 := by decide +kernel
theorem pos_SN : ∀ i, i < 14 → 0 < at0 SN i ∧ at0 SN i < 18446744073709551616 := by decide +kernel
theorem pos_SO : ∀ i, i < 7 → 0 < at0 SO i ∧ at0 SO i < 18446744073709551616 := by decide +kernel
theorem pos_SP : ∀ i, i < 10 → 0 < at0 SP i ∧ at0 SP i < 18446744073709551616 := by decide +kernel
theorem pos_SD : ∀ i, i < 13 → 0 < at0 SD i ∧ at0 SD i < 18446744073709551616 := by decide +kernel
theorem pos_SR : ∀ i, i < 8 → 0 < at0 SR i ∧ at0 SR i < 18446744073709551616 := by decide +kernel
theorem so_36 : ∀ k, k < 7 → 1 ≤ k → at0 SO k = 36 := by decide +kernel
theorem sp_at : ∀ k, k < 3 → at0 SP (2 + 3 * k) = 95 ∧ at0 SP (3 + 3 * k) = 2 := by decide +kernel
theorem sd_95 : ∀ k, k < 13 → 5 ≤ k → at0 SD k = 95 := by decide +kernel
section
variable {K : PySem.W.Frag} {σ : L2.St} {H : Hp} {tl t1 t2 t3 te : TE} {sp : Sp} {E : XK} {x1 x2 : V} {xs dvs : List V} {Q : VK} {D : Ends} {i : Nat}
theorem run_c1Lx (hl : EvL tl σ H xs) (k : ∀ p H1, Ex H H1 → H1 p = some (.lst xs) → sp ([.ref p] ++ dvs) H1 Q E) : tCall sp dvs E (tCons tl tNil) σ H Q := hl H (Ex.refl H) _ fun p H1 _ e h1 => k p H1 e h1
theorem run_c2L (h1 : Ev t1 σ H x1) (hl : EvL tl σ H xs) (k : ∀ p H1, Ex H H1 → H1 p = some (.lst xs) → sp ([x1, .ref p] ++ dvs) H1 Q E) : tCall sp dvs E (tCons t1 (tCons tl tNil)) σ H Q :=
  h1 H (Ex.refl H) _ fun H1 e1 => hl H1 e1 _ fun p H2 _ e2 g2 => k p H2 (e1.trans e2) g2
theorem run_c3L (h1 : Ev t1 σ H x1) (h2 : Ev t2 σ H x2) (hl : EvL tl σ H xs) (k : ∀ p H1, Ex H H1 → H1 p = some (.lst xs) → sp ([x1, x2, .ref p] ++ dvs) H1 Q E) : tCall sp dvs E (tCons t1 (tCons t2 (tCons tl tNil))) σ H Q :=
  h1 H (Ex.refl H) _ fun H1 e1 => h2 H1 e1 _ fun H2 e2 => hl H2 (e1.trans e2) _ fun p H3 _ e3 g3 => k p H3 ((e1.trans e2).trans e3) g3
theorem s_callD {ta : TA} {vs : List V} (h : EvA ta σ H vs) (k : ∀ H1, Ex H H1 → sp (vs ++ dvs) H1 (fun x H2 => D.nx (σ.set i (some x)) H2) E) : tAsg (tCall sp dvs E ta) (gName i) D σ H := h H (Ex.refl H) _ k
theorem ev_shownF {C : Addr} {al v : List Nat} (h : CutV C te σ H al (cutW v).1 (cutW v).2) (hA : Alf al) (hv : ∀ c ∈ v, c ∈ al) (hz : v.length ≤ 1000) : Ev (tCall (spShown C) [] E (tCons te tNil)) σ H (.str (shC al v)) := fun H1 e Q q => h H1 e _ fun p H2 e2 c => ⟨p, al, v, rfl, hA, hv, hz, c, fun H3 e3 => q H3 (e2.trans e3)⟩
end
section
variable {P : Program} {w : World} {K : PySem.W.Frag} {mg : Str → Option Value} {base : Heap} {C_Cut : Addr} {C_PressError : Addr} {C_BadAlphabet : Addr} {C_BadLetter : Addr} {C_BadRow : Addr} {C_BadTail : Addr} {C_BadRank : Addr} {C_NotBits : Addr} {C_BadIndex : Addr} {C_BadStanding : Addr} {C_BadRule : Addr} {C_AlphabetsDiffer : Addr} {C_DoesNotComeBack : Addr} {C_TooLarge : Addr} {C_NotWritten : Addr} {C_NoSuchText : Addr} {C_BadName : Addr} {C_NameTaken : Addr} {C_NoName : Addr} {C_EmptyRing : Addr} {C_NotInLot : Addr} {C_BadBuild : Addr} {C_BadGrowth : Addr} {C_EmptyText : Addr} {C_NothingToUndo : Addr} {C_NothingToRedo : Addr}
def spLaw (K : PySem.W.Frag) : Sp := fun vs H Q _ => ∃ (a : Addr) (ns : List Int), vs = [.ref a] ∧ SqL K H a (ns.map V.int) ∧ ns.length ≤ 63 ∧ ∀ H', Q (.bl true) H'
theorem ok_law {f : Addr} {fd : FuncData} (F : Fun K "law" "law" s_law f fd) (T : Top K mg C_Cut) (h1 : Has P w K mg base "_law_signs" s__law_signs ["row"] 1 (spSigns K)) (h2 : Has P w K mg base "_law_digits" s__law_digits ["cell", "sizes"] 1 (spDigits K)) (h3 : Has P w K mg base "_law_cell" s__law_cell ["script", "k"] 1 (spCell K))
    (h4 : Has P w K mg base "_law_short_word" s__law_short_word ["signs", "row"] 2 (spSw K)) (h5 : Has P w K mg base "_law_ruled_word" s__law_ruled_word ["signs", "row"] 2 (spRw K)) (h6 : Has P w K mg base "_law_free_word" s__law_free_word ["script", "first", "signs", "most"] 2 (spFr K)) (h7 : Has P w K mg base "_law_near_word" s__law_near_word ["signs", "word", "row"] 2 (spNw K))
    (h8 : Has P w K mg base "_law_other_signs" s__law_other_signs ["signs", "word", "row"] 1 (spOs K)) (h9 : Has P w K mg base "_law_spoilt_word" s__law_spoilt_word ["word", "row"] 2 (spSpw K)) (h10 : Has P w K mg base "_law_odd_signs" s__law_odd_signs ["signs", "row"] 2 (spOdd K)) (h11 : Has P w K mg base "cut_of" s_cut_of ["alphabet", "text"] 7 (spCut C_Cut))
    (h12 : Has P w K mg base "_law_is_cut" s__law_is_cut ["told", "signs", "word"] 3 (spIs C_Cut)) (h13 : HasG P w K mg base "_law_shown" s__law_shown ["told"] 1 (spShown C_Cut)) (h14 : Has P w K mg base "_law_equality" s__law_equality ["told", "signs", "word", "other", "other_signs", "turn"] 8 (spEqu C_Cut)) (h15 : Has P w K mg base "_law_door" s__law_door ["signs", "word", "by_name"] 8 spDoor) : FnG P w K mg base CX0 9 f fd ["script"] (spLaw K) := by
  obtain ⟨f1, fd1, _, G__law_signs, b__law_signs, m__law_signs, k__law_signs⟩ := h1
  obtain ⟨f2, fd2, _, G__law_digits, b__law_digits, m__law_digits, k__law_digits⟩ := h2
  obtain ⟨f3, fd3, _, G__law_cell, b__law_cell, m__law_cell, k__law_cell⟩ := h3
  obtain ⟨f4, fd4, _, G__law_short_word, b__law_short_word, m__law_short_word, k__law_short_word⟩ := h4
  obtain ⟨f5, fd5, _, G__law_ruled_word, b__law_ruled_word, m__law_ruled_word, k__law_ruled_word⟩ := h5
  obtain ⟨f6, fd6, _, G__law_free_word, b__law_free_word, m__law_free_word, k__law_free_word⟩ := h6
  obtain ⟨f7, fd7, _, G__law_near_word, b__law_near_word, m__law_near_word, k__law_near_word⟩ := h7
  obtain ⟨f8, fd8, _, G__law_other_signs, b__law_other_signs, m__law_other_signs, k__law_other_signs⟩ := h8
  obtain ⟨f9, fd9, _, G__law_spoilt_word, b__law_spoilt_word, m__law_spoilt_word, k__law_spoilt_word⟩ := h9
  obtain ⟨f10, fd10, _, G__law_odd_signs, b__law_odd_signs, m__law_odd_signs, k__law_odd_signs⟩ := h10
  obtain ⟨f11, fd11, _, G_cut_of, b_cut_of, m_cut_of, k_cut_of⟩ := h11
  obtain ⟨f12, fd12, _, G__law_is_cut, b__law_is_cut, m__law_is_cut, k__law_is_cut⟩ := h12
  obtain ⟨f13, fd13, _, G__law_shown, b__law_shown, m__law_shown, k__law_shown⟩ := h13
  obtain ⟨f14, fd14, _, G__law_equality, b__law_equality, m__law_equality, k__law_equality⟩ := h14
  obtain ⟨f15, fd15, _, G__law_door, b__law_door, m__law_door, k__law_door⟩ := h15
  refine okG F S_law (fun vs H Q E h => ?_) (fun cdv A outer s H vs Q E g hr h => ?_)
  · obtain ⟨a, ns, rfl, _⟩ := h
    rfl
  obtain ⟨a, ns, rfl, hS, h63, q⟩ := h
  refine ⟨_, (pss_cons
    (ps_set (i := 1) S_law.nd rfl (Or.inl rfl) (pe_call G__law_digits (hr.mono (by decide)) rfl m__law_digits k__law_digits b__law_digits .nil pass0 (pa_cons (pe_call G__law_cell (hr.mono (by decide)) rfl m__law_cell k__law_cell b__law_cell .nil pass0 (pa_cons (pv 0) (pa_cons pe_int pa_nil))) (pa_cons (pe_lst (pa_cons pe_int (pa_cons pe_int (pa_cons pe_int (pa_cons pe_int (pa_cons pe_int (pa_cons pe_int (pa_cons pe_int (pa_cons pe_int (pa_cons pe_int (pa_cons pe_int (pa_cons pe_int (pa_cons pe_int pa_nil))))))))))))) pa_nil))))
    (pss_cons
    (ps_set (i := 2) S_law.nd rfl (Or.inl rfl) (pe_call G__law_signs (hr.mono (by decide)) rfl m__law_signs k__law_signs b__law_signs .nil pass0 (pa_cons (pv 1) pa_nil)))
    (pss_cons
    (ps_set (i := 3) S_law.nd rfl (Or.inl rfl) (pe_call G__law_short_word (hr.mono (by decide)) rfl m__law_short_word k__law_short_word b__law_short_word .nil pass0 (pa_cons (pv 2) (pa_cons (pe_call G__law_digits (hr.mono (by decide)) rfl m__law_digits k__law_digits b__law_digits .nil pass0 (pa_cons (pe_call G__law_cell (hr.mono (by decide)) rfl m__law_cell k__law_cell b__law_cell .nil pass0 (pa_cons (pv 0) (pa_cons pe_int pa_nil))) (pa_cons (pe_op op_cat (pe_lst (pa_cons pe_int (pa_cons pe_int (pa_cons pe_int pa_nil)))) (pe_op op_rep (pe_lst (pa_cons pe_int pa_nil)) pe_int)) pa_nil))) pa_nil))))
    (pss_cut
    (ps_if (pt_cmpR op_eq (pe_ix (r := rIxL K) ix_list (pv 1) pe_int (fun _ _ => rfl)) pe_int (nomark _)) (pss_cons
    (ps_set (i := 4) S_law.nd rfl (Or.inl rfl) (pe_call G__law_digits (hr.mono (by decide)) rfl m__law_digits k__law_digits b__law_digits .nil pass0 (pa_cons (pe_call G__law_cell (hr.mono (by decide)) rfl m__law_cell k__law_cell b__law_cell .nil pass0 (pa_cons (pv 0) (pa_cons pe_int pa_nil))) (pa_cons (pe_lst (pa_cons pe_int (pa_cons pe_int (pa_cons pe_int (pa_cons pe_int (pa_cons pe_int (pa_cons pe_int (pa_cons pe_int (pa_cons pe_int pa_nil))))))))) pa_nil))))
    (pss_cut
    (ps_if (pt_cmpR op_eq (pe_ix (r := rIxL K) ix_list (pv 1) pe_int (fun _ _ => rfl)) pe_int (nomark _)) (pss_one
    (ps_asg pe_int (pg_sub (pv 4) pe_int set_list))) pss_nil)
    (pss_cons
    (ps_set (i := 3) S_law.nd rfl (Or.inl rfl) (pe_call G__law_ruled_word (hr.mono (by decide)) rfl m__law_ruled_word k__law_ruled_word b__law_ruled_word .nil pass0 (pa_cons (pv 2) (pa_cons (pv 4) pa_nil))))
    (pss_one
    (ps_if (pt_cmpR op_eq (pe_ix (r := rIxL K) ix_list (pv 1) pe_int (fun _ _ => rfl)) pe_int (nomark _)) (pss_one
    (ps_set (i := 3) S_law.nd rfl (Or.inl rfl) (pe_call G__law_free_word (hr.mono (by decide)) rfl m__law_free_word k__law_free_word b__law_free_word .nil pass0 (pa_cons (pv 0) (pa_cons pe_int (pa_cons (pv 2) (pa_cons (pe_ix (r := rIxL K) ix_list (pv 4) pe_int (fun _ _ => rfl)) pa_nil))))))) pss_nil))))) pss_nil)
    (pss_cons
    (ps_set (i := 5) S_law.nd rfl (Or.inl rfl) (pe_call G__law_near_word (hr.mono (by decide)) rfl m__law_near_word k__law_near_word b__law_near_word .nil pass0 (pa_cons (pv 2) (pa_cons (pv 3) (pa_cons (pe_call G__law_digits (hr.mono (by decide)) rfl m__law_digits k__law_digits b__law_digits .nil pass0 (pa_cons (pe_call G__law_cell (hr.mono (by decide)) rfl m__law_cell k__law_cell b__law_cell .nil pass0 (pa_cons (pv 0) (pa_cons pe_int pa_nil))) (pa_cons (pe_op op_cat (pe_lst (pa_cons pe_int (pa_cons pe_int pa_nil))) (pe_op op_rep (pe_lst (pa_cons pe_int pa_nil)) pe_int)) pa_nil))) pa_nil)))))
    (pss_cons
    (ps_set (i := 6) S_law.nd rfl (Or.inl rfl) (pe_call G__law_other_signs (hr.mono (by decide)) rfl m__law_other_signs k__law_other_signs b__law_other_signs .nil pass0 (pa_cons (pv 2) (pa_cons (pv 3) (pa_cons (pe_call G__law_digits (hr.mono (by decide)) rfl m__law_digits k__law_digits b__law_digits .nil pass0 (pa_cons (pe_call G__law_cell (hr.mono (by decide)) rfl m__law_cell k__law_cell b__law_cell .nil pass0 (pa_cons (pv 0) (pa_cons pe_int pa_nil))) (pa_cons (pe_op op_cat (pe_lst (pa_cons pe_int pa_nil)) (pe_op op_rep (pe_lst (pa_cons pe_int pa_nil)) pe_int)) pa_nil))) pa_nil)))))
    (pss_cons
    (ps_set (i := 7) S_law.nd rfl (Or.inl rfl) (pe_call G__law_spoilt_word (hr.mono (by decide)) rfl m__law_spoilt_word k__law_spoilt_word b__law_spoilt_word .nil pass0 (pa_cons (pv 3) (pa_cons (pe_call G__law_digits (hr.mono (by decide)) rfl m__law_digits k__law_digits b__law_digits .nil pass0 (pa_cons (pe_call G__law_cell (hr.mono (by decide)) rfl m__law_cell k__law_cell b__law_cell .nil pass0 (pa_cons (pv 0) (pa_cons pe_int pa_nil))) (pa_cons (pe_op op_cat (pe_lst (pa_cons pe_int pa_nil)) (pe_op op_rep (pe_lst (pa_cons pe_int (pa_cons pe_int (pa_cons pe_int pa_nil)))) pe_int)) pa_nil))) pa_nil))))
    (pss_cons
    (ps_set (i := 8) S_law.nd rfl (Or.inl rfl) (pe_call G__law_odd_signs (hr.mono (by decide)) rfl m__law_odd_signs k__law_odd_signs b__law_odd_signs .nil pass0 (pa_cons (pv 2) (pa_cons (pe_call G__law_digits (hr.mono (by decide)) rfl m__law_digits k__law_digits b__law_digits .nil pass0 (pa_cons (pe_call G__law_cell (hr.mono (by decide)) rfl m__law_cell k__law_cell b__law_cell .nil pass0 (pa_cons (pv 0) (pa_cons pe_int pa_nil))) (pa_cons (pe_op op_cat (pe_lst (pa_cons pe_int (pa_cons pe_int (pa_cons pe_int (pa_cons pe_int (pa_cons pe_int pa_nil)))))) (pe_op op_rep (pe_lst (pa_cons pe_int pa_nil)) pe_int)) pa_nil))) pa_nil))))
    (pss_cons
    (ps_set (i := 9) S_law.nd rfl (Or.inl rfl) (pe_call G_cut_of (hr.mono (by decide)) rfl m_cut_of k_cut_of b_cut_of .nil pass0 (pa_cons (pv 2) (pa_cons (pv 3) pa_nil))))
    (pss_cons
    (ps_if (pt_not (pt_val (pe_call G__law_is_cut (hr.mono (by decide)) rfl m__law_is_cut k__law_is_cut b__law_is_cut .nil pass0 (pa_cons (pv 9) (pa_cons (pv 2) (pa_cons (pv 3) pa_nil)))))) (pss_one
    (ps_ret pe_bl)) pss_nil)
    (pss_cons
    (ps_set (i := 10) S_law.nd rfl (Or.inl rfl) (pe_callG g G__law_shown (hr.mono (by decide)) rfl m__law_shown k__law_shown b__law_shown .nil pass0 (pa_cons (pv 9) pa_nil)))
    (pss_cons
    (ps_if (pt_not (pt_val (pe_call G__law_equality (hr.mono (by decide)) rfl m__law_equality k__law_equality b__law_equality .nil pass0 (pa_cons (pv 9) (pa_cons (pv 2) (pa_cons (pv 3) (pa_cons (pv 5) (pa_cons (pv 6) (pa_cons (pe_ix (r := rIxL K) ix_list (pv 1) pe_int (fun _ _ => rfl)) pa_nil))))))))) (pss_one
    (ps_ret pe_bl)) pss_nil)
    (pss_cons
    (ps_if (PW.pt (pw_or (pt_not (pt_val (pe_call G__law_door (hr.mono (by decide)) rfl m__law_door k__law_door b__law_door .nil pass0 (pa_cons (pv 2) (pa_cons (pv 7) (pa_cons (pe_cmpR op_eq (pe_ix (r := rIxL K) ix_list (pv 1) pe_int (fun _ _ => rfl)) pe_int (nomark _)) pa_nil)))))) (pw_or1 (pt_not (pt_val (pe_call G__law_door (hr.mono (by decide)) rfl m__law_door k__law_door b__law_door .nil pass0 (pa_cons (pv 8) (pa_cons (pv 7) (pa_cons (pe_cmpR op_eq (pe_ix (r := rIxL K) ix_list (pv 1) pe_int (fun _ _ => rfl)) pe_int (nomark _)) pa_nil))))))))) (pss_one
    (ps_ret pe_bl)) pss_nil)
    (pss_cons
    (ps_if (PW.pt (pw_or (pt_not (pt_val (pe_call G__law_door (hr.mono (by decide)) rfl m__law_door k__law_door b__law_door .nil pass0 (pa_cons (pv 8) (pa_cons (pv 3) (pa_cons (pe_cmpR op_eq (pe_ix (r := rIxL K) ix_list (pv 1) pe_int (fun _ _ => rfl)) pe_int (nomark _)) pa_nil)))))) (pw_or1 (pt_not (pt_val (pe_call G__law_door (hr.mono (by decide)) rfl m__law_door k__law_door b__law_door .nil pass0 (pa_cons (pv 6) (pa_cons (pv 5) (pa_cons (pe_cmpR op_eq (pe_ix (r := rIxL K) ix_list (pv 1) pe_int (fun _ _ => rfl)) pe_int (nomark _)) pa_nil))))))))) (pss_one
    (ps_ret pe_bl)) pss_nil)
    (pss_one
    (ps_ret (pe_and (pe_call G__law_door (hr.mono (by decide)) rfl m__law_door k__law_door b__law_door .nil pass0 (pa_cons (pv 2) (pa_cons (pv 3) (pa_cons pe_bl pa_nil)))) (pe_and (pe_cmpR op_eq (pe_callG g G__law_shown (hr.mono (by decide)) rfl m__law_shown k__law_shown b__law_shown .nil pass0 (pa_cons (pe_call G_cut_of (hr.mono (by decide)) rfl m_cut_of k_cut_of b_cut_of .nil pass0 (pa_cons (pv 2) (pa_cons (pv 3) pa_nil))) pa_nil)) (pv 10) (nomark _)) (pe_one (pe_cmpR op_eq (pe_callG g G__law_shown (hr.mono (by decide)) rfl m__law_shown k__law_shown b__law_shown .nil pass0 (pa_cons (pv 9) pa_nil)) (pv 10) (nomark _))))))))))))))))))))), ?_⟩
  have cel : ∀ {σ : L2.St} {H1 : Hp} {k : Int}, Ex H H1 → σ[0]? = some (some (.ref a)) → (0 ≤ k ∧ k ≤ 1000) → Ev (tCall (spCell K) [] E0 (tCons (tVar 0) (tCons (tC (.int k)) tNil))) σ H1 (.int (cell ns k)) := fun e h0 hk => ev_call (ea_cons (ev_var h0) (ea_cons ev_c ea_nil)) (sv_cell (ex_l e hS) h63 hk)
  -- head, signs
  refine q_asgL (el_digs (ss := SH) (cel (Ex.refl H) rfl (by decide)) (el_lst (ea_cons ev_c (ea_cons ev_c (ea_cons ev_c (ea_cons ev_c (ea_cons ev_c (ea_cons ev_c (ea_cons ev_c (ea_cons ev_c (ea_cons ev_c (ea_cons ev_c (ea_cons ev_c (ea_cons ev_c ea_nil)))))))))))) (by show 12 ≤ 100000; decide)) (by decide) (fun i hi => pos_SH i hi)) fun hp H1 hhp e1 g1 => ?_
  have hl : (digits (cell ns 0) SH).length = 12 := digits_len _ _
  have d0 := digits_at (c := cell ns 0) (ss := SH) (i := 0) (by decide) (by decide)
  generalize digits (cell ns 0) SH = hd at *
  refine q_callD (vs := [.ref hp]) (dvs := []) (ea_cons (ev_var rfl) ea_nil) fun H2 e2 => ⟨hp, hd, rfl, sq_of (e2 _ _ g1), by omega, d0, fun al hA H3 e3 => ?_⟩
  have e13 := (e1.trans e2).trans e3
  have gh := e3 _ _ (e2 _ _ g1)
  -- the short word
  refine q_asgX (run_c2L (ev_var rfl) (el_digs (ss := SZ) (cel e13 rfl (by decide)) (el_eq (el_catL (el_lst (ea_cons ev_c (ea_cons ev_c (ea_cons ev_c ea_nil))) (by show 3 ≤ 100000; decide)) (el_rep (n := 46) (el_lst (ea_cons ev_c ea_nil) (by show 1 ≤ 100000; decide)) (fun _ _ => ev_c) (by show 1 * 46 ≤ 100000; decide) (by decide)) (by decide)) rfl) (by rw [sz_len]; decide) (fun i hi => sz_pos i (by rw [sz_len] at hi; exact hi))) fun p H4 e4 g4 => ⟨al, p, _, rfl, hA, sq_of g4, w_row _, fun v0 hv0 H5 e5 => ?_⟩)
  have e35 := e4.trans e5
  have e15 := e13.trans e35
  have gh5 := e35 _ _ gh
  refine q_cut (M := fun σ' H' => ∃ v u4, σ' = [some (.ref a), some (.ref hp), some (tx al), some (tx v), u4, none, none, none, none, none, none] ∧ Ex H5 H' ∧ Word al 400 v) ?_ ?_
  · refine s_when (D := { nx := _, rt := _, bk := _, ct := _ }) (et_eqI (ev_atI (sq_of gh5) (i := 7) (by omega) rfl (ev_var rfl) ev_c) ev_c) (fun hb H6 e6 => ?_) (fun hb H6 e6 => ?_)
    · have e16 := e15.trans e6
      refine q_asgL (el_digs (ss := SR) (cel e16 rfl (by decide)) (el_lst (ea_cons ev_c (ea_cons ev_c (ea_cons ev_c (ea_cons ev_c (ea_cons ev_c (ea_cons ev_c (ea_cons ev_c (ea_cons ev_c ea_nil)))))))) (by show 8 ≤ 100000; decide)) (by decide) (fun i hi => pos_SR i hi)) fun rp H7 hrp e7 g7 => ?_
      have rl : (digits (cell ns 2) SR).length = 8 := digits_len _ _
      have b1 := digits_at (c := cell ns 2) (ss := SR) (i := 1) (by decide) (by decide)
      have b1 : 0 ≤ at0 (digits (cell ns 2) SR) 1 ∧ at0 (digits (cell ns 2) SR) 1 < 401 := b1
      generalize digits (cell ns 2) SR = rr at *
      have e67 := e6.trans e7
      have hr0 : H5 rp = none := fresh_back e6 hrp
      refine q_cut (M := fun σ' H' => σ' = [some (.ref a), some (.ref hp), some (tx al), some (tx v0), some (.ref rp), none, none, none, none, none, none] ∧ Ex H5 H' ∧ ∃ r2 : List Int, H' rp = some (.lst (r2.map V.int)) ∧ LRow r2) ?_ ?_
      · refine s_when (D := { nx := _, rt := _, bk := _, ct := _ }) (et_eqI (ev_atI (sq_of (e67 _ _ gh5)) (i := 11) (by omega) rfl (ev_var rfl) ev_c) ev_c) (fun hb H8 e8 => ?_) (fun hb H8 e8 => ?_)
        · refine s_setL (j := 1) (e8 _ _ g7) ev_c (ev_var rfl) (ev_c (v := .int ((1 : Nat) : Int))) (by rw [List.length_map]; omega) fun H9 e9 => ⟨rfl, ((e67.trans e8).trans e9).mut hr0, rr.set 1 400, ?_, ⟨by rw [List.length_set]; exact rl, ?_⟩⟩
          · rw [upd_same, List.map_set]
          · have e : at0 (rr.set 1 400) 1 = 400 := by
              unfold at0
              rw [List.getD_eq_getElem?_getD, List.getElem?_set_self (by omega)]
              rfl
            rw [e]
            exact ⟨by decide, by decide⟩
        · exact ⟨rfl, e67.trans e8, rr, e8 _ _ g7, ⟨rl, b1⟩⟩
      rintro σ' H8 ⟨rfl, e8, r2, g8, lr⟩
      have e18 := e15.trans e8
      refine q_callD (vs := [tx al, .ref rp]) (dvs := []) (ea_cons (ev_var rfl) (ea_cons (ev_var rfl) ea_nil)) fun H9 e9 => ⟨al, rp, r2, rfl, hA, sq_of (e9 _ _ g8), lr, fun v1 hv1 H10 e10 => ?_⟩
      have e910 := e9.trans e10
      have e8a := e8.trans e910
      refine s_when (D := { nx := _, rt := _, bk := _, ct := _ }) (et_eqI (ev_atI (sq_of (e8a _ _ gh5)) (i := 8) (by omega) rfl (ev_var rfl) ev_c) ev_c) (fun hb H11 e11 => ?_) (fun hb H11 e11 => ?_)
      · obtain ⟨n, hn, en⟩ : ∃ n : Nat, n ≤ 400 ∧ at0 r2 1 = (n : Int) := ⟨(at0 r2 1).toNat, by have := lr.b1; omega, by have := lr.b1; omega⟩
        have e8b := e8a.trans e11
        refine s_callD (vs := [.ref a, .int ((3 : Nat) : Int), tx al, .int (n : Int)]) (dvs := []) (ea_cons (ev_var rfl) (ea_cons ev_c (ea_cons (ev_var rfl) (ea_cons (ev_is (ev_atI (sq_of (e11 _ _ (e910 _ _ g8))) (i := 1) (by have := lr.len; omega) rfl (ev_var rfl) ev_c) (by rw [en])) ea_nil)))) fun H12 e12 => ⟨a, al, ns, 3, n, rfl, hA, ex_l ((e15.trans e8b).trans e12) hS, h63, by decide, hn, fun v hv H13 e13' => ⟨v, _, rfl, (e8b.trans e12).trans e13', hv⟩⟩
      · exact ⟨v1, _, rfl, e8a.trans e11, hv1⟩
    · exact ⟨v0, none, rfl, e6, hv0.over, by have := hv0.len; omega⟩
  rintro σ' H6 ⟨v, u4, rfl, e6, hv⟩
  have e16 := e15.trans e6
  have hvo := hv.over
  have hvl : v.length ≤ 400 := hv.len
  have gh6 := e6 _ _ gh5
  -- other
  refine q_asgX (run_c3L (ev_var rfl) (ev_var rfl) (el_digs (ss := SN) (cel e16 rfl (by decide)) (el_eq (el_catL (el_lst (ea_cons ev_c (ea_cons ev_c ea_nil)) (by show 2 ≤ 100000; decide)) (el_rep (n := 12) (el_lst (ea_cons ev_c ea_nil) (by show 1 ≤ 100000; decide)) (fun _ _ => ev_c) (by show 1 * 12 ≤ 100000; decide) (by decide)) (by decide)) rfl) (by decide) (fun i hi => pos_SN i hi)) fun p H7 e7 g7 => ⟨al, v, p, _, rfl, hA, hvo, hvl, sq_of g7, by rw [digits_len]; rfl, fun o ho H8 e8 => ?_⟩)
  have e68 := e7.trans e8
  have e18 := e16.trans e68
  -- other_signs
  refine q_asgX (run_c3L (ev_var rfl) (ev_var rfl) (el_digs (ss := SO) (cel e18 rfl (by decide)) (el_eq (el_catL (el_lst (ea_cons ev_c ea_nil) (by show 1 ≤ 100000; decide)) (el_rep (n := 6) (el_lst (ea_cons ev_c ea_nil) (by show 1 ≤ 100000; decide)) (fun _ _ => ev_c) (by show 1 * 6 ≤ 100000; decide) (by decide)) (by decide)) rfl) (by decide) (fun i hi => pos_SO i hi)) fun p H9 e9 g9 => ⟨al, v, p, _, rfl, hA, hvl, sq_of g9, by rw [digits_len]; rfl, digits_at (i := 0) (by decide) (by decide), fun k hk1 hk2 => ?_, fun al2 hA2 hk2 H10 e10 => ?_⟩)
  · have e := so_36 k hk2 hk1
    have b := digits_at (c := cell ns 12) (ss := SO) (i := k) hk2 (by rw [e]; decide)
    rw [e] at b
    exact b
  have e8a := e9.trans e10
  have e1a := e18.trans e8a
  have low1 := low.of hA hvo
  -- spoilt
  refine q_asgX (run_c2L (ev_var rfl) (el_digs (ss := SP) (cel e1a rfl (by decide)) (el_eq (el_catL (el_lst (ea_cons ev_c ea_nil) (by show 1 ≤ 100000; decide)) (el_rep (n := 3) (el_lst (ea_cons ev_c (ea_cons ev_c (ea_cons ev_c ea_nil))) (by show 3 ≤ 100000; decide)) (fun _ _ => ev_c) (by show 3 * 3 ≤ 100000; decide) (by decide)) (by decide)) rfl) (by decide) (fun i hi => pos_SP i hi)) fun p H11 e11 g11 => ⟨v, p, _, rfl, low1, hvl, sq_of g11, by rw [digits_len]; rfl, digits_at (i := 0) (by decide) (by decide), fun k hk => ?_, fun sp hsl hsz H12 e12 => ?_⟩)
  · obtain ⟨x1, x2⟩ := sp_at k hk
    have b1 := digits_at (c := cell ns 13) (ss := SP) (i := 2 + 3 * k) (by show _ < 10; omega) (by rw [x1]; decide)
    have b2 := digits_at (c := cell ns 13) (ss := SP) (i := 3 + 3 * k) (by show _ < 10; omega) (by rw [x2]; decide)
    rw [x1] at b1
    rw [x2] at b2
    exact ⟨b1, b2⟩
  have eac := e11.trans e12
  have e1c := e1a.trans eac
  -- odd
  refine q_asgX (run_c2L (ev_var rfl) (el_digs (ss := SD) (cel e1c rfl (by decide)) (el_eq (el_catL (el_lst (ea_cons ev_c (ea_cons ev_c (ea_cons ev_c (ea_cons ev_c (ea_cons ev_c ea_nil))))) (by show 5 ≤ 100000; decide)) (el_rep (n := 8) (el_lst (ea_cons ev_c ea_nil) (by show 1 ≤ 100000; decide)) (fun _ _ => ev_c) (by show 1 * 8 ≤ 100000; decide) (by decide)) (by decide)) rfl) (by decide) (fun i hi => pos_SD i hi)) fun p H13 e13' g13 => ⟨al, p, _, rfl, hA, sq_of g13, by rw [digits_len]; rfl, digits_at (i := 0) (by decide) (by decide), digits_at (i := 2) (by decide) (by decide), digits_at (i := 3) (by decide) (by decide), digits_at (i := 4) (by decide) (by decide), fun k hk1 hk2 => ?_, fun od hol hoz H14 e14 => ?_⟩)
  · have e := sd_95 k hk2 hk1
    have b := digits_at (c := cell ns 14) (ss := SD) (i := k) hk2 (by rw [e]; decide)
    rw [e] at b
    exact b
  have ece := e13'.trans e14
  have e1e := e1c.trans ece
  have gh14 := ece _ _ (eac _ _ (e8a _ _ (e68 _ _ gh6)))
  have lowA : low al := low.of hA fun c hc => hc
  have lowA2 : low al2 := low.of hA2 fun c hc => hc
  have h6a := hA.six
  have h6b := hA2.six
  have hol' := ho.over
  have hoz' : o.length ≤ 400 := ho.len
  have lowO := low.of hA hol'
  -- told
  refine q_callD (vs := [tx al, tx v]) (dvs := []) (ea_cons (ev_var rfl) (ea_cons (ev_var rfl) ea_nil)) fun H15 e15' => ⟨al, v, rfl, hA, hvo, by omega, fun tp H16 htp e16' hC => ?_⟩
  have e0g := (e15'.trans e16')
  have gh16 := e0g _ _ gh14
  refine q_skip (et_is (et_not (et_B (ev_call (ea_cons (ev_var rfl) (ea_cons (ev_var rfl) (ea_cons (ev_var rfl) ea_nil))) (sv_is hA hvo (by omega) hC)))) rfl) fun H17 e17 => ?_
  refine q_asg (ev_call (ea_cons (ev_var rfl) ea_nil) (sv_shown hA hvo (by omega) (hC.mono e17))) fun H18 e18' => ?_
  have e178 := e17.trans e18'
  refine q_skip (et_is (et_not (et_B (ev_call (ea_cons (ev_var rfl) (ea_cons (ev_var rfl) (ea_cons (ev_var rfl) (ea_cons (ev_var rfl) (ea_cons (ev_var rfl) (ea_cons (ev_atI (sq_of (e178 _ _ gh16)) (i := 10) (by omega) rfl (ev_var rfl) ev_c) ea_nil)))))) (sv_equ hA hA2 hvo hol' (fun c hc => hk2 c (hvo c hc) hc) (by omega) (by omega) (hC.mono e178))))) rfl) fun H19 e19 => ?_
  have e179 := e178.trans e19
  have h9 : ∀ {σ : L2.St} {H' : Hp} {z : Int}, Ex H16 H' → σ[1]? = some (some (.ref hp)) → Ev (tOp rEq (tOp (rIxL K) (tVar 1) (tC (.int 9))) (tC (.int z))) σ H' (.bl (decide (V.int (at0 hd 9) = V.int z))) := fun e h => ev_op (ev_atI (sq_of (e _ _ gh16)) (i := 9) (by omega) rfl (ev_var h) ev_c) ev_c (rv_eq rfl)
  refine q_skip (et_is (et_or (et_not (et_B (ev_call (ea_cons (ev_var rfl) (ea_cons (ev_var rfl) (ea_cons (h9 e179 rfl) ea_nil))) (sv_door lowA (by omega) (by omega))))) fun _ => et_not (et_B (ev_call (ea_cons (ev_var rfl) (ea_cons (ev_var rfl) (ea_cons (h9 e179 rfl) ea_nil))) (sv_door hol (by omega) (by omega))))) rfl) fun H20 e20 => ?_
  have e17a := e179.trans e20
  refine q_skip (et_is (et_or (et_not (et_B (ev_call (ea_cons (ev_var rfl) (ea_cons (ev_var rfl) (ea_cons (h9 e17a rfl) ea_nil))) (sv_door hol (by omega) (by omega))))) fun _ => et_not (et_B (ev_call (ea_cons (ev_var rfl) (ea_cons (ev_var rfl) (ea_cons (h9 e17a rfl) ea_nil))) (sv_door lowA2 (by omega) (by omega))))) rfl) fun H21 e21 => ?_
  have e17b := e17a.trans e21
  have hz : v.length ≤ 1000 := by omega
  exact s_ret (ev_is (ev_andV (a := true) (ev_call (ea_cons (ev_var rfl) (ea_cons (ev_var rfl) (ea_cons ev_c ea_nil))) (sv_door (b := true) lowA (by omega) (by omega))) fun _ => ev_andV (a := true) (b := true) (ev_is (ev_op (ev_shownF (cv_cut (ev_var rfl) (ev_var rfl) hA hvo hz) hA hvo hz) (ev_var rfl) (rv_eq rfl)) (by rw [decide_eq_true rfl])) fun _ => ev_is (ev_op (ev_call (ea_cons (ev_var rfl) ea_nil) (sv_shown hA hvo hz (hC.mono e17b))) (ev_var rfl) (rv_eq rfl)) (by rw [decide_eq_true rfl])) rfl) fun H22 _ => q H22
end
end Ver
namespace Ver
open PySem PySem.Spec PyProof.Rows L2
/-! ### the head by one kernel run: facts as tests -/
abbrev Fc : Type := PySem.W.Frag → Bool
def allF (fas : List (List Fc)) (K : PySem.W.Frag) : Bool := fas.all fun l => l.all fun f => f K
def obsH (fas : List (List Fc)) (fn : List He.FnD) (K : PySem.W.Frag) : He.Al := (allF fas K && fn.all fun d => (He.Fa.code d.at_ d.qual).ok K, fn.map fun d => He.fnObs K d.at_)
def SaysH (fas : List (List Fc)) (fn : List He.FnD) (K : PySem.W.Frag) : Prop := obsH fas fn K = He.valE fn
def obsHG (n : Nat) (fas : List (List Fc)) (fn : List He.FnD) (g : Addr → Option Obj) : He.Al := obsH fas fn (He.frG g (He.asG g n))
def hookH (n : Nat) (fas : List (List Fc)) (fn : List He.FnD) : PySem.W.Hook where
  α := He.Al
  obs := fun s => obsHG n fas fn s.heap.get?
  val := fun _ => He.valE fn
  says := fun _ h => ∃ K : PySem.W.Frag, K.In h ∧ SaysH fas fn K
  of := fun _ _ e => ⟨_, He.frG_in, e⟩
  keeps := fun _ _ _ ⟨K, hK, c⟩ k => ⟨K, PySem.W.Frag.In.keeps hK k, c⟩
theorem obsHG_eq {n : Nat} {fas : List (List Fc)} {fn : List He.FnD} {g : Addr → Option Obj} {s : Shared} (h : ∀ a, g a = s.heap.get? a) : obsHG n fas fn g = (hookH n fas fn).obs s := by
  have e : g = s.heap.get? := funext h
  rw [e] <;> rfl
section
variable {fas : List (List Fc)} {fn : List He.FnD} {K : PySem.W.Frag}
theorem SaysH.fact (c : SaysH fas fn K) (j i : Nat) {l : List Fc} {f : Fc} (h1 : fas[j]? = some l) (h2 : l[i]? = some f) : f K = true := by
  have c1 := (He.ba (show (allF fas K && fn.all fun d => (He.Fa.code d.at_ d.qual).ok K) = true from congrArg (fun z : He.Al => z.1) c)).1
  have c2 := List.all_eq_true.mp (show (fas.all fun l => l.all fun f => f K) = true from c1) l (List.mem_of_getElem? h1)
  exact List.all_eq_true.mp c2 f (List.mem_of_getElem? h2)
theorem SaysH.def_ (c : SaysH fas fn K) (i : Nat) {d : He.FnD} (h : fn[i]? = some d) :
    ∃ oc od osl kV doc pm an cdv ct, K.lookup (He.fAd K d.at_) = some ⟨oc, od, .func (PySem.W.fnOf d.name d.qual d.params d.body d.scope .none kV doc pm an cdv ct), osl⟩ ∧ PySem.W.codeIn K cdv d.qual = true := by
  have c2 := (He.ba (show (allF fas K && fn.all fun d => (He.Fa.code d.at_ d.qual).ok K) = true from congrArg (fun z : He.Al => z.1) c)).2
  have e : fn.map (fun d => He.fnObs K d.at_) = fn.map He.FnD.val := congrArg (fun z : He.Al => z.2) c
  have e2 : (fn.map fun d => He.fnObs K d.at_)[i]? = (fn.map He.FnD.val)[i]? := by rw [e]
  rw [List.getElem?_map, List.getElem?_map, h] at e2
  exact He.fn_ok (Option.some.inj e2) (List.all_eq_true.mp c2 d (List.mem_of_getElem? h))
end
/-! ### the run's equation by pieces: one kernel run each -/
def KofS (n : Nat) (s : PySem.W.SharedT) : PySem.W.Frag := He.frG (HandSHeadRun.getT s) (He.asG (HandSHeadRun.getT s) n)
def obsN (fn : List He.FnD) (K : PySem.W.Frag) : He.Al := (fn.all fun d => (He.Fa.code d.at_ d.qual).ok K, fn.map fun d => He.fnObs K d.at_)
section
open PySem.W HandSHeadRun
def Pc (r : OpenRow) (M : Nat) (w : World) {β : Type} (f : SharedT → β) (b : β) : Prop := ∀ os : OsState, (endF (stepQ (denQ tabQ) r.prog w) M r.prog w os).map f = some b
theorem run_join {r : OpenRow} {q : Program} {M n : Nat} {loose : List PySem.Str} {w : World} {fas : List (List Fc)} {fn : List He.FnD}
    (h0 : Pc r M w (fun s => (looksF r.prog (boot_heap w.params) s.abs, seenQ q loose (importedModules r.prog.main.body) (fun s => xlAt q [] s && recOk r.toRowW.records s) s.abs)) (true, openGood q loose))
    (h1 : ∀ l ∈ fas, Pc r M w (fun s => l.all fun f => f (KofS n s)) true) (h2 : Pc r M w (fun s => obsN fn (KofS n s)) (He.valE fn)) :
    RunEq r q (hookH n fas fn) (fun s => obsHG n fas fn (getT s)) M loose w := by
  intro os
  have a0 := h0 os
  have a2 := h2 os
  have a1 := fun l hl => h1 l hl os
  generalize endF (stepQ (denQ tabQ) r.prog w) M r.prog w os = o at a0 a1 a2 ⊢
  cases o with
  | none => cases a0
  | some s =>
    have b0 : (looksF r.prog (boot_heap w.params) s.abs, seenQ q loose (importedModules r.prog.main.body) (fun s => xlAt q [] s && recOk r.toRowW.records s) s.abs) = (true, openGood q loose) := Option.some.inj a0
    have b2 : obsN fn (KofS n s) = He.valE fn := Option.some.inj a2
    have b1 : allF fas (KofS n s) = true := List.all_eq_true.mpr fun l hl => Option.some.inj (a1 l hl)
    have c1 : (fn.all fun d => (He.Fa.code d.at_ d.qual).ok (KofS n s)) = true := congrArg (fun z : He.Al => z.1) b2
    have c2 : (fn.map fun d => He.fnObs (KofS n s) d.at_) = fn.map He.FnD.val := congrArg (fun z : He.Al => z.2) b2
    have d : obsHG n fas fn (getT s) = He.valE fn := by
      show (allF fas (KofS n s) && fn.all fun d => (He.Fa.code d.at_ d.qual).ok (KofS n s), fn.map fun d => He.fnObs (KofS n s) d.at_) = _
      rw [b1, c1, c2]
      rfl
    show some (looksF r.prog (boot_heap w.params) s.abs, seenQ q loose (importedModules r.prog.main.body) (fun s => xlAt q [] s && recOk r.toRowW.records s) s.abs, obsHG n fas fn (getT s)) = some (true, openGood q loose, He.valE fn)
    rw [d]
    obtain ⟨e1, e2⟩ := Prod.mk.inj b0
    rw [e1, e2]
end
/-! ### tests of an error class, of a constant -/
def xcB (K : PySem.W.Frag) (C : Addr) : Bool := match K.lookup C with
  | some ⟨.type "type", _, .cls cd, sl⟩ => (match cd.mro, sl.toList with
    | .ref C' :: bm, [_, _, _, _, some (.builtin n), _] => C' == C && n == "ValueError.__new__" && !cd.hasDel && cd.hasDict && PySem.HandSPX.refsVE bm
    | _, _ => false)
  | _ => false
theorem xcB_ok {K : PySem.W.Frag} {C : Addr} (q : xcB K C = true) : ∃ nm qn N bs bm sn sub ab col dd k0 k1 k2 k3 k5, K.lookup C = some (excClassObj nm qn C N bs bm true sn sub ab col dd k0 k1 k2 k3 k5 "ValueError.__new__") ∧ PySem.HandSPX.refsVE bm = true := by
  unfold xcB at q
  split at q
  · rename_i dd cd sl ho
    split at q
    · rename_i C' bm k0 k1 k2 k3 n k5 hm hs
      simp only [Bool.and_eq_true, beq_iff_eq, Bool.not_eq_true'] at q
      obtain ⟨⟨⟨⟨rfl, rfl⟩, hdel⟩, hd'⟩, ht⟩ := q
      obtain ⟨nm, bs, mro, ns, qn, hd, sn, sub, ab, col, del⟩ := cd
      dsimp only at hm hdel hd'
      subst hm hdel hd'
      have hsl : sl = #[k0, k1, k2, k3, some (.builtin "ValueError.__new__"), k5] := by
        obtain ⟨l⟩ := sl
        simp only at hs
        rw [hs]
      subst hsl
      exact ⟨nm, qn, ns, bs, bm, sn, sub, ab, col, dd, k0, k1, k2, k3, k5, ho, ht⟩
    · cases q
  · cases q
def intB (K : PySem.W.Frag) (x : Str) (i : Int) : Bool := match PySem.W.nsIn K mainGlobals x with
  | some (some (.int j _)) => decide (j = i)
  | _ => false
theorem intB_ok {K : PySem.W.Frag} {x : Str} {i : Int} (h : intB K x i = true) : ∃ t, PySem.W.nsIn K mainGlobals x = some (some (.int i t)) := by
  unfold intB at h
  split at h
  · rename_i j t e
    rw [of_decide_eq_true h] at e
    exact ⟨t, e⟩
  · cases h
def strB (K : PySem.W.Frag) (x z : Str) : Bool := match PySem.W.nsIn K mainGlobals x with
  | some (some (.str y _)) => decide (y = z)
  | _ => false
theorem strB_ok {K : PySem.W.Frag} {x z : Str} (h : strB K x z = true) : ∃ t, PySem.W.nsIn K mainGlobals x = some (some (.str z t)) := by
  unfold strB at h
  split at h
  · rename_i j t e
    rw [of_decide_eq_true h] at e
    exact ⟨t, e⟩
  · cases h
def obB (a : Option Bool) (b : Bool) : Bool := match a with
  | some c => c == b
  | none => false
theorem obB_ok {a : Option Bool} {b : Bool} (h : obB a b = true) : a = some b := by
  unfold obB at h
  split at h
  · rw [eq_of_beq h]
  · cases h
def tyB (a : Option Value) (s : String) : Bool := match a with
  | some (.type t) => decide (t = s)
  | _ => false
theorem tyB_ok {a : Option Value} {s : String} (h : tyB a s = true) : a = some (.type s) := by
  unfold tyB at h
  split at h
  · rw [of_decide_eq_true h]
  · cases h
/-! ### the ends -/
theorem walkH {l : PySem.W.OpenLaw} {n k : Nat} {q : Program} {loose : List Str} {XP : (Str → Option Value) → Heap → Prop} {YP : World → Heap → Prop} {d : DefRec} {x : Str} {sp : World → PySem.W.Frag → Sp} {S : PySem.W.Frag → Prop}
    (most : l.most = some n) (hn : n ≤ sizeLine) (nodef : d.params.defaults = []) (room : Room k callerA) (inK : ∀ (w : World) (h : Heap), YP w h → ∃ K : PySem.W.Frag, K.In h ∧ S K)
    (F : ∀ (w : World) (mg : Str → Option Value) (fa : Addr) (h : Heap) (K : PySem.W.Frag), K.In h → S K → h.Ns mainGlobals mg → mg d.name = some (.ref fa) →
      ∃ fd : FuncData, (∀ (s : Shared) (u : Value), BindsTo s fd ⟨[u], []⟩ [(x, u)]) ∧ ∀ bs : Heap, K.In bs → bs.Ns mainGlobals mg → FnOk l.prog w K mg bs CX0 k fa fd [x] (sp w K))
    (said : ∀ (w : World) (K : PySem.W.Frag) (H : Hp) (a : Addr) (ns : List Int), ns.length ≤ n → L2.Only H → SqL K H a (ns.map V.int) → sp w K [.ref a] H (fun v _ => v = .bl true) fun _ _ _ => False) :
    PySem.W.WalkO q loose XP YP l.row.toRowW d [] (fun f vs => PySem.call f vs) := by
  refine L2.walk_ofE (n := n) (k := k) (x := x) (CX := CX0) most hn nodef room ?_ (fun _ _ _ _ z => z)
  intro w mg fa h Y G hmg
  obtain ⟨K, KX, c⟩ := inK w h Y
  obtain ⟨fd, hb, hF⟩ := F w mg fa h K KX c G hmg
  exact ⟨K, fd, sp w K, KX, hb, fun H a ns hl hO hS => said w K H a ns hl hO hS, hF⟩
theorem walkHG {l : PySem.W.OpenLaw} {n k : Nat} {q : Program} {loose : List Str} {XP : (Str → Option Value) → Heap → Prop} {YP : World → Heap → Prop} {d : DefRec} {x : Str} {sp : World → PySem.W.Frag → Sp} {S : PySem.W.Frag → Prop}
    (most : l.most = some n) (hn : n ≤ sizeLine) (nodef : d.params.defaults = []) (room : Room k callerA) (inK : ∀ (w : World) (h : Heap), YP w h → ∃ K : PySem.W.Frag, K.In h ∧ S K)
    (F : ∀ (w : World) (mg : Str → Option Value) (fa : Addr) (h : Heap) (K : PySem.W.Frag), K.In h → S K → h.Ns mainGlobals mg → mg d.name = some (.ref fa) →
      ∃ fd : FuncData, (∀ (s : Shared) (u : Value), BindsTo s fd ⟨[u], []⟩ [(x, u)]) ∧ ∀ bs : Heap, K.In bs → bs.Ns mainGlobals mg → FnG l.prog w K mg bs CX0 k fa fd [x] (sp w K))
    (said : ∀ (w : World) (K : PySem.W.Frag) (H : Hp) (a : Addr) (ns : List Int), ns.length ≤ n → L2.Only H → SqL K H a (ns.map V.int) → sp w K [.ref a] H (fun v _ => v = .bl true) fun _ _ _ => False) :
    PySem.W.WalkO q loose XP YP l.row.toRowW d [] (fun f vs => PySem.call f vs) := by
  refine Att.attach_call most nodef ?_
  intro w s0 s1 mg mb fa o pm cd doc a vs ns G Y ho hd hcd hmg hobj hints hlen hg
  obtain ⟨K, KX, c⟩ := inK w _ Y
  obtain ⟨fd, hb, hF⟩ := F w mg fa _ K KX c G.T.g hmg
  exact law_goG KX G.T.g G.T.b G.T.builtins G.T.nolimit hg hobj hints (Nat.le_trans hlen hn) room hF hb fun H hO hS => said w K H a ns hlen hO hS
end Ver
namespace Ver
open PySem PySem.Spec PyProof.Rows L2 Evl
theorem at_mk {K : PySem.W.Frag} {h : Heap} {mg : Str → Option Value} {x : Str} {st : Stmt} {f : Addr} {oc : Value} {od an : Option Addr} {osl : Array (Option Value)} {kV doc pm cdv ct : Value} (X : K.In h) (G : h.Ns mainGlobals mg)
    (a : PySem.W.nsIn K mainGlobals x = some (some (.ref f))) (l : K.lookup f = some ⟨oc, od, .func (PySem.W.fnOf x x (defArgs st) (defBody st) (defScope st) .none kV doc pm an cdv ct), osl⟩) (c : PySem.W.codeIn K cdv x = true) (k : PySem.W.keepIn K (.ref f) = true) : At K mg x st :=
  ⟨⟨f, _, fun_mk l c k, PySem.W.mg_of X G a⟩⟩
theorem all_mk {l : PySem.W.OpenLaw} {w : World} {K : PySem.W.Frag} {h : Heap} {mg : Str → Option Value} {fa : Addr} (X : K.In h) (G : h.Ns mainGlobals mg) (hfa : mg "law" = some (.ref fa))
    {f0 : Addr} {od0 an0 : Option Addr} {sl0 : Array (Option Value)} {oc0 kV0 dc0 pm0 cd0 ct0 : Value}
    {f1 : Addr} {od1 an1 : Option Addr} {sl1 : Array (Option Value)} {oc1 kV1 dc1 pm1 cd1 ct1 : Value}
    {f2 : Addr} {od2 an2 : Option Addr} {sl2 : Array (Option Value)} {oc2 kV2 dc2 pm2 cd2 ct2 : Value}
    {f3 : Addr} {od3 an3 : Option Addr} {sl3 : Array (Option Value)} {oc3 kV3 dc3 pm3 cd3 ct3 : Value}
    {f4 : Addr} {od4 an4 : Option Addr} {sl4 : Array (Option Value)} {oc4 kV4 dc4 pm4 cd4 ct4 : Value}
    {f5 : Addr} {od5 an5 : Option Addr} {sl5 : Array (Option Value)} {oc5 kV5 dc5 pm5 cd5 ct5 : Value}
    {f6 : Addr} {od6 an6 : Option Addr} {sl6 : Array (Option Value)} {oc6 kV6 dc6 pm6 cd6 ct6 : Value}
    {f7 : Addr} {od7 an7 : Option Addr} {sl7 : Array (Option Value)} {oc7 kV7 dc7 pm7 cd7 ct7 : Value}
    {f8 : Addr} {od8 an8 : Option Addr} {sl8 : Array (Option Value)} {oc8 kV8 dc8 pm8 cd8 ct8 : Value}
    {f9 : Addr} {od9 an9 : Option Addr} {sl9 : Array (Option Value)} {oc9 kV9 dc9 pm9 cd9 ct9 : Value}
    {f10 : Addr} {od10 an10 : Option Addr} {sl10 : Array (Option Value)} {oc10 kV10 dc10 pm10 cd10 ct10 : Value}
    {f11 : Addr} {od11 an11 : Option Addr} {sl11 : Array (Option Value)} {oc11 kV11 dc11 pm11 cd11 ct11 : Value}
    {f12 : Addr} {od12 an12 : Option Addr} {sl12 : Array (Option Value)} {oc12 kV12 dc12 pm12 cd12 ct12 : Value}
    {f13 : Addr} {od13 an13 : Option Addr} {sl13 : Array (Option Value)} {oc13 kV13 dc13 pm13 cd13 ct13 : Value}
    {f14 : Addr} {od14 an14 : Option Addr} {sl14 : Array (Option Value)} {oc14 kV14 dc14 pm14 cd14 ct14 : Value}
    {f15 : Addr} {od15 an15 : Option Addr} {sl15 : Array (Option Value)} {oc15 kV15 dc15 pm15 cd15 ct15 : Value}
    {f16 : Addr} {od16 an16 : Option Addr} {sl16 : Array (Option Value)} {oc16 kV16 dc16 pm16 cd16 ct16 : Value}
    {f17 : Addr} {od17 an17 : Option Addr} {sl17 : Array (Option Value)} {oc17 kV17 dc17 pm17 cd17 ct17 : Value}
    {f18 : Addr} {od18 an18 : Option Addr} {sl18 : Array (Option Value)} {oc18 kV18 dc18 pm18 cd18 ct18 : Value}
    {f19 : Addr} {od19 an19 : Option Addr} {sl19 : Array (Option Value)} {oc19 kV19 dc19 pm19 cd19 ct19 : Value}
    {f20 : Addr} {od20 an20 : Option Addr} {sl20 : Array (Option Value)} {oc20 kV20 dc20 pm20 cd20 ct20 : Value}
    {f21 : Addr} {od21 an21 : Option Addr} {sl21 : Array (Option Value)} {oc21 kV21 dc21 pm21 cd21 ct21 : Value}
    {f22 : Addr} {od22 an22 : Option Addr} {sl22 : Array (Option Value)} {oc22 kV22 dc22 pm22 cd22 ct22 : Value}
    {f23 : Addr} {od23 an23 : Option Addr} {sl23 : Array (Option Value)} {oc23 kV23 dc23 pm23 cd23 ct23 : Value}
    {f24 : Addr} {od24 an24 : Option Addr} {sl24 : Array (Option Value)} {oc24 kV24 dc24 pm24 cd24 ct24 : Value}
    {f25 : Addr} {od25 an25 : Option Addr} {sl25 : Array (Option Value)} {oc25 kV25 dc25 pm25 cd25 ct25 : Value}
    {f26 : Addr} {od26 an26 : Option Addr} {sl26 : Array (Option Value)} {oc26 kV26 dc26 pm26 cd26 ct26 : Value}
    {f27 : Addr} {od27 an27 : Option Addr} {sl27 : Array (Option Value)} {oc27 kV27 dc27 pm27 cd27 ct27 : Value}
    {f28 : Addr} {od28 an28 : Option Addr} {sl28 : Array (Option Value)} {oc28 kV28 dc28 pm28 cd28 ct28 : Value}
    {f29 : Addr} {od29 an29 : Option Addr} {sl29 : Array (Option Value)} {oc29 kV29 dc29 pm29 cd29 ct29 : Value}
    {f30 : Addr} {od30 an30 : Option Addr} {sl30 : Array (Option Value)} {oc30 kV30 dc30 pm30 cd30 ct30 : Value}
    {f31 : Addr} {od31 an31 : Option Addr} {sl31 : Array (Option Value)} {oc31 kV31 dc31 pm31 cd31 ct31 : Value}
    {f32 : Addr} {od32 an32 : Option Addr} {sl32 : Array (Option Value)} {oc32 kV32 dc32 pm32 cd32 ct32 : Value}
    {f33 : Addr} {od33 an33 : Option Addr} {sl33 : Array (Option Value)} {oc33 kV33 dc33 pm33 cd33 ct33 : Value}
    {f34 : Addr} {od34 an34 : Option Addr} {sl34 : Array (Option Value)} {oc34 kV34 dc34 pm34 cd34 ct34 : Value}
    {f35 : Addr} {od35 an35 : Option Addr} {sl35 : Array (Option Value)} {oc35 kV35 dc35 pm35 cd35 ct35 : Value}
    {f36 : Addr} {od36 an36 : Option Addr} {sl36 : Array (Option Value)} {oc36 kV36 dc36 pm36 cd36 ct36 : Value}
    {f37 : Addr} {od37 an37 : Option Addr} {sl37 : Array (Option Value)} {oc37 kV37 dc37 pm37 cd37 ct37 : Value}
    {C_Cut : Addr}
    {t_LETTERS : Tok}
    {t_MOST_LETTERS : Tok}
    (a0 : PySem.W.nsIn K mainGlobals "is_alphabet" = some (some (.ref f0)))
    (l0 : K.lookup f0 = some ⟨oc0, od0, .func (PySem.W.fnOf "is_alphabet" "is_alphabet" (defArgs s_is_alphabet) (defBody s_is_alphabet) (defScope s_is_alphabet) .none kV0 dc0 pm0 an0 cd0 ct0), sl0⟩)
    (c0 : PySem.W.codeIn K cd0 "is_alphabet" = true) (k0 : PySem.W.keepIn K (.ref f0) = true)
    (a1 : PySem.W.nsIn K mainGlobals "is_letter" = some (some (.ref f1)))
    (l1 : K.lookup f1 = some ⟨oc1, od1, .func (PySem.W.fnOf "is_letter" "is_letter" (defArgs s_is_letter) (defBody s_is_letter) (defScope s_is_letter) .none kV1 dc1 pm1 an1 cd1 ct1), sl1⟩)
    (c1 : PySem.W.codeIn K cd1 "is_letter" = true) (k1 : PySem.W.keepIn K (.ref f1) = true)
    (a2 : PySem.W.nsIn K mainGlobals "check_alphabet" = some (some (.ref f2)))
    (l2 : K.lookup f2 = some ⟨oc2, od2, .func (PySem.W.fnOf "check_alphabet" "check_alphabet" (defArgs s_check_alphabet) (defBody s_check_alphabet) (defScope s_check_alphabet) .none kV2 dc2 pm2 an2 cd2 ct2), sl2⟩)
    (c2 : PySem.W.codeIn K cd2 "check_alphabet" = true) (k2 : PySem.W.keepIn K (.ref f2) = true)
    (a3 : PySem.W.nsIn K mainGlobals "check_text" = some (some (.ref f3)))
    (l3 : K.lookup f3 = some ⟨oc3, od3, .func (PySem.W.fnOf "check_text" "check_text" (defArgs s_check_text) (defBody s_check_text) (defScope s_check_text) .none kV3 dc3 pm3 an3 cd3 ct3), sl3⟩)
    (c3 : PySem.W.codeIn K cd3 "check_text" = true) (k3 : PySem.W.keepIn K (.ref f3) = true)
    (a4 : PySem.W.nsIn K mainGlobals "is_whole" = some (some (.ref f4)))
    (l4 : K.lookup f4 = some ⟨oc4, od4, .func (PySem.W.fnOf "is_whole" "is_whole" (defArgs s_is_whole) (defBody s_is_whole) (defScope s_is_whole) .none kV4 dc4 pm4 an4 cd4 ct4), sl4⟩)
    (c4 : PySem.W.codeIn K cd4 "is_whole" = true) (k4 : PySem.W.keepIn K (.ref f4) = true)
    (a5 : PySem.W.nsIn K mainGlobals "is_number_below" = some (some (.ref f5)))
    (l5 : K.lookup f5 = some ⟨oc5, od5, .func (PySem.W.fnOf "is_number_below" "is_number_below" (defArgs s_is_number_below) (defBody s_is_number_below) (defScope s_is_number_below) .none kV5 dc5 pm5 an5 cd5 ct5), sl5⟩)
    (c5 : PySem.W.codeIn K cd5 "is_number_below" = true) (k5 : PySem.W.keepIn K (.ref f5) = true)
    (a6 : PySem.W.nsIn K mainGlobals "as_tuples" = some (some (.ref f6)))
    (l6 : K.lookup f6 = some ⟨oc6, od6, .func (PySem.W.fnOf "as_tuples" "as_tuples" (defArgs s_as_tuples) (defBody s_as_tuples) (defScope s_as_tuples) .none kV6 dc6 pm6 an6 cd6 ct6), sl6⟩)
    (c6 : PySem.W.codeIn K cd6 "as_tuples" = true) (k6 : PySem.W.keepIn K (.ref f6) = true)
    (a7 : PySem.W.nsIn K mainGlobals "check_rows" = some (some (.ref f7)))
    (l7 : K.lookup f7 = some ⟨oc7, od7, .func (PySem.W.fnOf "check_rows" "check_rows" (defArgs s_check_rows) (defBody s_check_rows) (defScope s_check_rows) .none kV7 dc7 pm7 an7 cd7 ct7), sl7⟩)
    (c7 : PySem.W.codeIn K cd7 "check_rows" = true) (k7 : PySem.W.keepIn K (.ref f7) = true)
    (a8 : PySem.W.nsIn K mainGlobals "pieces_of" = some (some (.ref f8)))
    (l8 : K.lookup f8 = some ⟨oc8, od8, .func (PySem.W.fnOf "pieces_of" "pieces_of" (defArgs s_pieces_of) (defBody s_pieces_of) (defScope s_pieces_of) .none kV8 dc8 pm8 an8 cd8 ct8), sl8⟩)
    (c8 : PySem.W.codeIn K cd8 "pieces_of" = true) (k8 : PySem.W.keepIn K (.ref f8) = true)
    (a9 : PySem.W.nsIn K mainGlobals "starts_of" = some (some (.ref f9)))
    (l9 : K.lookup f9 = some ⟨oc9, od9, .func (PySem.W.fnOf "starts_of" "starts_of" (defArgs s_starts_of) (defBody s_starts_of) (defScope s_starts_of) .none kV9 dc9 pm9 an9 cd9 ct9), sl9⟩)
    (c9 : PySem.W.codeIn K cd9 "starts_of" = true) (k9 : PySem.W.keepIn K (.ref f9) = true)
    (a10 : PySem.W.nsIn K mainGlobals "cut_of" = some (some (.ref f10)))
    (l10 : K.lookup f10 = some ⟨oc10, od10, .func (PySem.W.fnOf "cut_of" "cut_of" (defArgs s_cut_of) (defBody s_cut_of) (defScope s_cut_of) .none kV10 dc10 pm10 an10 cd10 ct10), sl10⟩)
    (c10 : PySem.W.codeIn K cd10 "cut_of" = true) (k10 : PySem.W.keepIn K (.ref f10) = true)
    (a11 : PySem.W.nsIn K mainGlobals "_law_whole" = some (some (.ref f11)))
    (l11 : K.lookup f11 = some ⟨oc11, od11, .func (PySem.W.fnOf "_law_whole" "_law_whole" (defArgs s__law_whole) (defBody s__law_whole) (defScope s__law_whole) .none kV11 dc11 pm11 an11 cd11 ct11), sl11⟩)
    (c11 : PySem.W.codeIn K cd11 "_law_whole" = true) (k11 : PySem.W.keepIn K (.ref f11) = true)
    (a12 : PySem.W.nsIn K mainGlobals "_law_cell" = some (some (.ref f12)))
    (l12 : K.lookup f12 = some ⟨oc12, od12, .func (PySem.W.fnOf "_law_cell" "_law_cell" (defArgs s__law_cell) (defBody s__law_cell) (defScope s__law_cell) .none kV12 dc12 pm12 an12 cd12 ct12), sl12⟩)
    (c12 : PySem.W.codeIn K cd12 "_law_cell" = true) (k12 : PySem.W.keepIn K (.ref f12) = true)
    (a13 : PySem.W.nsIn K mainGlobals "_law_digits" = some (some (.ref f13)))
    (l13 : K.lookup f13 = some ⟨oc13, od13, .func (PySem.W.fnOf "_law_digits" "_law_digits" (defArgs s__law_digits) (defBody s__law_digits) (defScope s__law_digits) .none kV13 dc13 pm13 an13 cd13 ct13), sl13⟩)
    (c13 : PySem.W.codeIn K cd13 "_law_digits" = true) (k13 : PySem.W.keepIn K (.ref f13) = true)
    (a14 : PySem.W.nsIn K mainGlobals "_law_signs" = some (some (.ref f14)))
    (l14 : K.lookup f14 = some ⟨oc14, od14, .func (PySem.W.fnOf "_law_signs" "_law_signs" (defArgs s__law_signs) (defBody s__law_signs) (defScope s__law_signs) .none kV14 dc14 pm14 an14 cd14 ct14), sl14⟩)
    (c14 : PySem.W.codeIn K cd14 "_law_signs" = true) (k14 : PySem.W.keepIn K (.ref f14) = true)
    (a15 : PySem.W.nsIn K mainGlobals "_law_plain_word" = some (some (.ref f15)))
    (l15 : K.lookup f15 = some ⟨oc15, od15, .func (PySem.W.fnOf "_law_plain_word" "_law_plain_word" (defArgs s__law_plain_word) (defBody s__law_plain_word) (defScope s__law_plain_word) .none kV15 dc15 pm15 an15 cd15 ct15), sl15⟩)
    (c15 : PySem.W.codeIn K cd15 "_law_plain_word" = true) (k15 : PySem.W.keepIn K (.ref f15) = true)
    (a16 : PySem.W.nsIn K mainGlobals "_law_counting_word" = some (some (.ref f16)))
    (l16 : K.lookup f16 = some ⟨oc16, od16, .func (PySem.W.fnOf "_law_counting_word" "_law_counting_word" (defArgs s__law_counting_word) (defBody s__law_counting_word) (defScope s__law_counting_word) .none kV16 dc16 pm16 an16 cd16 ct16), sl16⟩)
    (c16 : PySem.W.codeIn K cd16 "_law_counting_word" = true) (k16 : PySem.W.keepIn K (.ref f16) = true)
    (a17 : PySem.W.nsIn K mainGlobals "_law_short_word" = some (some (.ref f17)))
    (l17 : K.lookup f17 = some ⟨oc17, od17, .func (PySem.W.fnOf "_law_short_word" "_law_short_word" (defArgs s__law_short_word) (defBody s__law_short_word) (defScope s__law_short_word) .none kV17 dc17 pm17 an17 cd17 ct17), sl17⟩)
    (c17 : PySem.W.codeIn K cd17 "_law_short_word" = true) (k17 : PySem.W.keepIn K (.ref f17) = true)
    (a18 : PySem.W.nsIn K mainGlobals "_law_ruled_word" = some (some (.ref f18)))
    (l18 : K.lookup f18 = some ⟨oc18, od18, .func (PySem.W.fnOf "_law_ruled_word" "_law_ruled_word" (defArgs s__law_ruled_word) (defBody s__law_ruled_word) (defScope s__law_ruled_word) .none kV18 dc18 pm18 an18 cd18 ct18), sl18⟩)
    (c18 : PySem.W.codeIn K cd18 "_law_ruled_word" = true) (k18 : PySem.W.keepIn K (.ref f18) = true)
    (a19 : PySem.W.nsIn K mainGlobals "_law_free_word" = some (some (.ref f19)))
    (l19 : K.lookup f19 = some ⟨oc19, od19, .func (PySem.W.fnOf "_law_free_word" "_law_free_word" (defArgs s__law_free_word) (defBody s__law_free_word) (defScope s__law_free_word) .none kV19 dc19 pm19 an19 cd19 ct19), sl19⟩)
    (c19 : PySem.W.codeIn K cd19 "_law_free_word" = true) (k19 : PySem.W.keepIn K (.ref f19) = true)
    (a20 : PySem.W.nsIn K mainGlobals "_law_characters" = some (some (.ref f20)))
    (l20 : K.lookup f20 = some ⟨oc20, od20, .func (PySem.W.fnOf "_law_characters" "_law_characters" (defArgs s__law_characters) (defBody s__law_characters) (defScope s__law_characters) .none kV20 dc20 pm20 an20 cd20 ct20), sl20⟩)
    (c20 : PySem.W.codeIn K cd20 "_law_characters" = true) (k20 : PySem.W.keepIn K (.ref f20) = true)
    (a21 : PySem.W.nsIn K mainGlobals "_law_is_alphabet" = some (some (.ref f21)))
    (l21 : K.lookup f21 = some ⟨oc21, od21, .func (PySem.W.fnOf "_law_is_alphabet" "_law_is_alphabet" (defArgs s__law_is_alphabet) (defBody s__law_is_alphabet) (defScope s__law_is_alphabet) .none kV21 dc21 pm21 an21 cd21 ct21), sl21⟩)
    (c21 : PySem.W.codeIn K cd21 "_law_is_alphabet" = true) (k21 : PySem.W.keepIn K (.ref f21) = true)
    (a22 : PySem.W.nsIn K mainGlobals "_law_stray" = some (some (.ref f22)))
    (l22 : K.lookup f22 = some ⟨oc22, od22, .func (PySem.W.fnOf "_law_stray" "_law_stray" (defArgs s__law_stray) (defBody s__law_stray) (defScope s__law_stray) .none kV22 dc22 pm22 an22 cd22 ct22), sl22⟩)
    (c22 : PySem.W.codeIn K cd22 "_law_stray" = true) (k22 : PySem.W.keepIn K (.ref f22) = true)
    (a23 : PySem.W.nsIn K mainGlobals "_law_spoilt_word" = some (some (.ref f23)))
    (l23 : K.lookup f23 = some ⟨oc23, od23, .func (PySem.W.fnOf "_law_spoilt_word" "_law_spoilt_word" (defArgs s__law_spoilt_word) (defBody s__law_spoilt_word) (defScope s__law_spoilt_word) .none kV23 dc23 pm23 an23 cd23 ct23), sl23⟩)
    (c23 : PySem.W.codeIn K cd23 "_law_spoilt_word" = true) (k23 : PySem.W.keepIn K (.ref f23) = true)
    (a24 : PySem.W.nsIn K mainGlobals "_law_odd_signs" = some (some (.ref f24)))
    (l24 : K.lookup f24 = some ⟨oc24, od24, .func (PySem.W.fnOf "_law_odd_signs" "_law_odd_signs" (defArgs s__law_odd_signs) (defBody s__law_odd_signs) (defScope s__law_odd_signs) .none kV24 dc24 pm24 an24 cd24 ct24), sl24⟩)
    (c24 : PySem.W.codeIn K cd24 "_law_odd_signs" = true) (k24 : PySem.W.keepIn K (.ref f24) = true)
    (a25 : PySem.W.nsIn K mainGlobals "_law_cut" = some (some (.ref f25)))
    (l25 : K.lookup f25 = some ⟨oc25, od25, .func (PySem.W.fnOf "_law_cut" "_law_cut" (defArgs s__law_cut) (defBody s__law_cut) (defScope s__law_cut) .none kV25 dc25 pm25 an25 cd25 ct25), sl25⟩)
    (c25 : PySem.W.codeIn K cd25 "_law_cut" = true) (k25 : PySem.W.keepIn K (.ref f25) = true)
    (a26 : PySem.W.nsIn K mainGlobals "_law_near_word" = some (some (.ref f26)))
    (l26 : K.lookup f26 = some ⟨oc26, od26, .func (PySem.W.fnOf "_law_near_word" "_law_near_word" (defArgs s__law_near_word) (defBody s__law_near_word) (defScope s__law_near_word) .none kV26 dc26 pm26 an26 cd26 ct26), sl26⟩)
    (c26 : PySem.W.codeIn K cd26 "_law_near_word" = true) (k26 : PySem.W.keepIn K (.ref f26) = true)
    (a27 : PySem.W.nsIn K mainGlobals "_law_other_signs" = some (some (.ref f27)))
    (l27 : K.lookup f27 = some ⟨oc27, od27, .func (PySem.W.fnOf "_law_other_signs" "_law_other_signs" (defArgs s__law_other_signs) (defBody s__law_other_signs) (defScope s__law_other_signs) .none kV27 dc27 pm27 an27 cd27 ct27), sl27⟩)
    (c27 : PySem.W.codeIn K cd27 "_law_other_signs" = true) (k27 : PySem.W.keepIn K (.ref f27) = true)
    (a28 : PySem.W.nsIn K mainGlobals "_law_says" = some (some (.ref f28)))
    (l28 : K.lookup f28 = some ⟨oc28, od28, .func (PySem.W.fnOf "_law_says" "_law_says" (defArgs s__law_says) (defBody s__law_says) (defScope s__law_says) .none kV28 dc28 pm28 an28 cd28 ct28), sl28⟩)
    (c28 : PySem.W.codeIn K cd28 "_law_says" = true) (k28 : PySem.W.keepIn K (.ref f28) = true)
    (a29 : PySem.W.nsIn K mainGlobals "_law_kinds" = some (some (.ref f29)))
    (l29 : K.lookup f29 = some ⟨oc29, od29, .func (PySem.W.fnOf "_law_kinds" "_law_kinds" (defArgs s__law_kinds) (defBody s__law_kinds) (defScope s__law_kinds) .none kV29 dc29 pm29 an29 cd29 ct29), sl29⟩)
    (c29 : PySem.W.codeIn K cd29 "_law_kinds" = true) (k29 : PySem.W.keepIn K (.ref f29) = true)
    (a30 : PySem.W.nsIn K mainGlobals "_law_is_cut" = some (some (.ref f30)))
    (l30 : K.lookup f30 = some ⟨oc30, od30, .func (PySem.W.fnOf "_law_is_cut" "_law_is_cut" (defArgs s__law_is_cut) (defBody s__law_is_cut) (defScope s__law_is_cut) .none kV30 dc30 pm30 an30 cd30 ct30), sl30⟩)
    (c30 : PySem.W.codeIn K cd30 "_law_is_cut" = true) (k30 : PySem.W.keepIn K (.ref f30) = true)
    (a31 : PySem.W.nsIn K mainGlobals "_law_shown" = some (some (.ref f31)))
    (l31 : K.lookup f31 = some ⟨oc31, od31, .func (PySem.W.fnOf "_law_shown" "_law_shown" (defArgs s__law_shown) (defBody s__law_shown) (defScope s__law_shown) .none kV31 dc31 pm31 an31 cd31 ct31), sl31⟩)
    (c31 : PySem.W.codeIn K cd31 "_law_shown" = true) (k31 : PySem.W.keepIn K (.ref f31) = true)
    (a32 : PySem.W.nsIn K mainGlobals "_law_kin" = some (some (.ref f32)))
    (l32 : K.lookup f32 = some ⟨oc32, od32, .func (PySem.W.fnOf "_law_kin" "_law_kin" (defArgs s__law_kin) (defBody s__law_kin) (defScope s__law_kin) .none kV32 dc32 pm32 an32 cd32 ct32), sl32⟩)
    (c32 : PySem.W.codeIn K cd32 "_law_kin" = true) (k32 : PySem.W.keepIn K (.ref f32) = true)
    (a33 : PySem.W.nsIn K mainGlobals "_law_door" = some (some (.ref f33)))
    (l33 : K.lookup f33 = some ⟨oc33, od33, .func (PySem.W.fnOf "_law_door" "_law_door" (defArgs s__law_door) (defBody s__law_door) (defScope s__law_door) .none kV33 dc33 pm33 an33 cd33 ct33), sl33⟩)
    (c33 : PySem.W.codeIn K cd33 "_law_door" = true) (k33 : PySem.W.keepIn K (.ref f33) = true)
    (a34 : PySem.W.nsIn K mainGlobals "_law_equality" = some (some (.ref f34)))
    (l34 : K.lookup f34 = some ⟨oc34, od34, .func (PySem.W.fnOf "_law_equality" "_law_equality" (defArgs s__law_equality) (defBody s__law_equality) (defScope s__law_equality) .none kV34 dc34 pm34 an34 cd34 ct34), sl34⟩)
    (c34 : PySem.W.codeIn K cd34 "_law_equality" = true) (k34 : PySem.W.keepIn K (.ref f34) = true)
    (a35 : PySem.W.nsIn K mainGlobals "law" = some (some (.ref f35)))
    (l35 : K.lookup f35 = some ⟨oc35, od35, .func (PySem.W.fnOf "law" "law" (defArgs s_law) (defBody s_law) (defScope s_law) .none kV35 dc35 pm35 an35 cd35 ct35), sl35⟩)
    (c35 : PySem.W.codeIn K cd35 "law" = true) (k35 : PySem.W.keepIn K (.ref f35) = true)
    {C_PressError : Addr}
    {C_BadAlphabet : Addr}
    {C_BadLetter : Addr}
    {C_BadRow : Addr}
    {C_BadTail : Addr}
    {C_BadRank : Addr}
    {C_NotBits : Addr}
    {C_BadIndex : Addr}
    {C_BadStanding : Addr}
    {C_BadRule : Addr}
    {C_AlphabetsDiffer : Addr}
    {C_DoesNotComeBack : Addr}
    {C_TooLarge : Addr}
    {C_NotWritten : Addr}
    {C_NoSuchText : Addr}
    {C_BadName : Addr}
    {C_NameTaken : Addr}
    {C_NoName : Addr}
    {C_EmptyRing : Addr}
    {C_NotInLot : Addr}
    {C_BadBuild : Addr}
    {C_BadGrowth : Addr}
    {C_EmptyText : Addr}
    {C_NothingToUndo : Addr}
    {C_NothingToRedo : Addr}
    {fi_BadAlphabet : Addr} {nm_BadAlphabet q_BadAlphabet : Str} {N_BadAlphabet : Addr} {bs_BadAlphabet bm_BadAlphabet : List Value} {sn_BadAlphabet : List Str} {sub_BadAlphabet : List Value} {ab_BadAlphabet : Bool} {col_BadAlphabet : Option Bool} {dd_BadAlphabet : Option Addr} {m0_BadAlphabet m1_BadAlphabet m2_BadAlphabet m3_BadAlphabet m5_BadAlphabet : Option Value} {ocE_BadAlphabet kVE_BadAlphabet dcE_BadAlphabet pmE_BadAlphabet cdE_BadAlphabet ctE_BadAlphabet : Value} {odE_BadAlphabet anE_BadAlphabet : Option Addr} {slE_BadAlphabet : Array (Option Value)}
    {fi_BadLetter : Addr} {nm_BadLetter q_BadLetter : Str} {N_BadLetter : Addr} {bs_BadLetter bm_BadLetter : List Value} {sn_BadLetter : List Str} {sub_BadLetter : List Value} {ab_BadLetter : Bool} {col_BadLetter : Option Bool} {dd_BadLetter : Option Addr} {m0_BadLetter m1_BadLetter m2_BadLetter m3_BadLetter m5_BadLetter : Option Value} {ocE_BadLetter kVE_BadLetter dcE_BadLetter pmE_BadLetter cdE_BadLetter ctE_BadLetter : Value} {odE_BadLetter anE_BadLetter : Option Addr} {slE_BadLetter : Array (Option Value)}
    (hn_get : PySem.W.specialIn K (.builtin "object.__class__") "__get__" = some (some (.builtin "getset_descriptor.__get__"))) (ht_get : PySem.W.takesIn K (.builtin "object.__class__") = some true)
    (aE_PressError : PySem.W.nsIn K mainGlobals "PressError" = some (some (.ref C_PressError)))
    (aE_BadAlphabet : PySem.W.nsIn K mainGlobals "BadAlphabet" = some (some (.ref C_BadAlphabet)))
    (aE_BadLetter : PySem.W.nsIn K mainGlobals "BadLetter" = some (some (.ref C_BadLetter)))
    (aE_BadRow : PySem.W.nsIn K mainGlobals "BadRow" = some (some (.ref C_BadRow)))
    (aE_BadTail : PySem.W.nsIn K mainGlobals "BadTail" = some (some (.ref C_BadTail)))
    (aE_BadRank : PySem.W.nsIn K mainGlobals "BadRank" = some (some (.ref C_BadRank)))
    (aE_NotBits : PySem.W.nsIn K mainGlobals "NotBits" = some (some (.ref C_NotBits)))
    (aE_BadIndex : PySem.W.nsIn K mainGlobals "BadIndex" = some (some (.ref C_BadIndex)))
    (aE_BadStanding : PySem.W.nsIn K mainGlobals "BadStanding" = some (some (.ref C_BadStanding)))
    (aE_BadRule : PySem.W.nsIn K mainGlobals "BadRule" = some (some (.ref C_BadRule)))
    (aE_AlphabetsDiffer : PySem.W.nsIn K mainGlobals "AlphabetsDiffer" = some (some (.ref C_AlphabetsDiffer)))
    (aE_DoesNotComeBack : PySem.W.nsIn K mainGlobals "DoesNotComeBack" = some (some (.ref C_DoesNotComeBack)))
    (aE_TooLarge : PySem.W.nsIn K mainGlobals "TooLarge" = some (some (.ref C_TooLarge)))
    (aE_NotWritten : PySem.W.nsIn K mainGlobals "NotWritten" = some (some (.ref C_NotWritten)))
    (aE_NoSuchText : PySem.W.nsIn K mainGlobals "NoSuchText" = some (some (.ref C_NoSuchText)))
    (aE_BadName : PySem.W.nsIn K mainGlobals "BadName" = some (some (.ref C_BadName)))
    (aE_NameTaken : PySem.W.nsIn K mainGlobals "NameTaken" = some (some (.ref C_NameTaken)))
    (aE_NoName : PySem.W.nsIn K mainGlobals "NoName" = some (some (.ref C_NoName)))
    (aE_EmptyRing : PySem.W.nsIn K mainGlobals "EmptyRing" = some (some (.ref C_EmptyRing)))
    (aE_NotInLot : PySem.W.nsIn K mainGlobals "NotInLot" = some (some (.ref C_NotInLot)))
    (aE_BadBuild : PySem.W.nsIn K mainGlobals "BadBuild" = some (some (.ref C_BadBuild)))
    (aE_BadGrowth : PySem.W.nsIn K mainGlobals "BadGrowth" = some (some (.ref C_BadGrowth)))
    (aE_EmptyText : PySem.W.nsIn K mainGlobals "EmptyText" = some (some (.ref C_EmptyText)))
    (aE_NothingToUndo : PySem.W.nsIn K mainGlobals "NothingToUndo" = some (some (.ref C_NothingToUndo)))
    (aE_NothingToRedo : PySem.W.nsIn K mainGlobals "NothingToRedo" = some (some (.ref C_NothingToRedo)))
    (ty_BadAlphabet : PySem.W.typeIn K (.ref C_BadAlphabet) = some (.type "type"))
    (kcE_BadAlphabet : PySem.W.keepIn K (.ref C_BadAlphabet) = true)
    (gaE_BadAlphabet : PySem.W.findIn K (.ref C_BadAlphabet) "__getattribute__" = some (some (.builtin "BaseException.__getattribute__")))
    (ggE_BadAlphabet : PySem.W.findIn K (.ref C_BadAlphabet) "__getattr__" = some none)
    (sbE_BadAlphabet : PySem.W.subIn K (.ref C_BadAlphabet) (.type "BaseException") = some true)
    (hdE_BadAlphabet : PySem.W.hasDictIn K C_BadAlphabet = true)
    (caE_BadAlphabet : PySem.W.findIn K (.ref C_BadAlphabet) "__class__" = some (some (.builtin "object.__class__")))
    (mrE_BadAlphabet : PySem.W.mroIn K C_BadAlphabet (.type "object") = some true)
    (xL_BadAlphabet : K.lookup C_BadAlphabet = some (excClassObj nm_BadAlphabet q_BadAlphabet C_BadAlphabet N_BadAlphabet bs_BadAlphabet bm_BadAlphabet true sn_BadAlphabet sub_BadAlphabet ab_BadAlphabet col_BadAlphabet dd_BadAlphabet m0_BadAlphabet m1_BadAlphabet m2_BadAlphabet m3_BadAlphabet m5_BadAlphabet "ValueError.__new__"))
    (hb_BadAlphabet : PySem.HandSPX.refsVE bm_BadAlphabet = true)
    (saE_BadAlphabet : PySem.W.findIn K (.ref C_BadAlphabet) "__setattr__" = some (some (.builtin "object.__setattr__")))
    (iE_BadAlphabet : PySem.W.findIn K (.ref C_BadAlphabet) "__init__" = some (some (.ref fi_BadAlphabet))) (tiE_BadAlphabet : PySem.W.typeIn K (.ref fi_BadAlphabet) = some (.type "function"))
    (lE_BadAlphabet : K.lookup fi_BadAlphabet = some ⟨ocE_BadAlphabet, odE_BadAlphabet, .func (PySem.W.fnOf "__init__" "BadAlphabet.__init__" (defArgs s_BadAlphabet___init__) (defBody s_BadAlphabet___init__) (defScope s_BadAlphabet___init__) .none kVE_BadAlphabet dcE_BadAlphabet pmE_BadAlphabet anE_BadAlphabet cdE_BadAlphabet ctE_BadAlphabet), slE_BadAlphabet⟩) (ccE_BadAlphabet : PySem.W.codeIn K cdE_BadAlphabet "BadAlphabet.__init__" = true) (kpE_BadAlphabet : PySem.W.keepIn K (.ref fi_BadAlphabet) = true)
    (nfE_BadAlphabet_alphabet : PySem.W.findIn K (.ref C_BadAlphabet) "alphabet" = some none)
    (kt_BadAlphabet_PressError : PySem.W.kitOne K (.ref C_BadAlphabet) (.ref C_PressError) = some true)
    (kt_BadAlphabet_BadAlphabet : PySem.W.kitOne K (.ref C_BadAlphabet) (.ref C_BadAlphabet) = some true)
    (kt_BadAlphabet_BadLetter : PySem.W.kitOne K (.ref C_BadAlphabet) (.ref C_BadLetter) = some false)
    (kt_BadAlphabet_BadRow : PySem.W.kitOne K (.ref C_BadAlphabet) (.ref C_BadRow) = some false)
    (kt_BadAlphabet_BadTail : PySem.W.kitOne K (.ref C_BadAlphabet) (.ref C_BadTail) = some false)
    (kt_BadAlphabet_BadRank : PySem.W.kitOne K (.ref C_BadAlphabet) (.ref C_BadRank) = some false)
    (kt_BadAlphabet_NotBits : PySem.W.kitOne K (.ref C_BadAlphabet) (.ref C_NotBits) = some false)
    (kt_BadAlphabet_BadIndex : PySem.W.kitOne K (.ref C_BadAlphabet) (.ref C_BadIndex) = some false)
    (kt_BadAlphabet_BadStanding : PySem.W.kitOne K (.ref C_BadAlphabet) (.ref C_BadStanding) = some false)
    (kt_BadAlphabet_BadRule : PySem.W.kitOne K (.ref C_BadAlphabet) (.ref C_BadRule) = some false)
    (kt_BadAlphabet_AlphabetsDiffer : PySem.W.kitOne K (.ref C_BadAlphabet) (.ref C_AlphabetsDiffer) = some false)
    (kt_BadAlphabet_DoesNotComeBack : PySem.W.kitOne K (.ref C_BadAlphabet) (.ref C_DoesNotComeBack) = some false)
    (kt_BadAlphabet_TooLarge : PySem.W.kitOne K (.ref C_BadAlphabet) (.ref C_TooLarge) = some false)
    (kt_BadAlphabet_NotWritten : PySem.W.kitOne K (.ref C_BadAlphabet) (.ref C_NotWritten) = some false)
    (kt_BadAlphabet_NoSuchText : PySem.W.kitOne K (.ref C_BadAlphabet) (.ref C_NoSuchText) = some false)
    (kt_BadAlphabet_BadName : PySem.W.kitOne K (.ref C_BadAlphabet) (.ref C_BadName) = some false)
    (kt_BadAlphabet_NameTaken : PySem.W.kitOne K (.ref C_BadAlphabet) (.ref C_NameTaken) = some false)
    (kt_BadAlphabet_NoName : PySem.W.kitOne K (.ref C_BadAlphabet) (.ref C_NoName) = some false)
    (kt_BadAlphabet_EmptyRing : PySem.W.kitOne K (.ref C_BadAlphabet) (.ref C_EmptyRing) = some false)
    (kt_BadAlphabet_NotInLot : PySem.W.kitOne K (.ref C_BadAlphabet) (.ref C_NotInLot) = some false)
    (kt_BadAlphabet_BadBuild : PySem.W.kitOne K (.ref C_BadAlphabet) (.ref C_BadBuild) = some false)
    (kt_BadAlphabet_BadGrowth : PySem.W.kitOne K (.ref C_BadAlphabet) (.ref C_BadGrowth) = some false)
    (kt_BadAlphabet_EmptyText : PySem.W.kitOne K (.ref C_BadAlphabet) (.ref C_EmptyText) = some false)
    (kt_BadAlphabet_NothingToUndo : PySem.W.kitOne K (.ref C_BadAlphabet) (.ref C_NothingToUndo) = some false)
    (kt_BadAlphabet_NothingToRedo : PySem.W.kitOne K (.ref C_BadAlphabet) (.ref C_NothingToRedo) = some false)
    (kt_BadAlphabet_VE : PySem.W.kitOne K (.ref C_BadAlphabet) (.type "ValueError") = some true)
    (ex_BadAlphabet_BadAlphabet : PySem.W.exmOne K (.ref C_BadAlphabet) (.ref C_BadAlphabet) = some true)
    (ex_BadAlphabet_BadLetter : PySem.W.exmOne K (.ref C_BadAlphabet) (.ref C_BadLetter) = some false)
    (ty_BadLetter : PySem.W.typeIn K (.ref C_BadLetter) = some (.type "type"))
    (kcE_BadLetter : PySem.W.keepIn K (.ref C_BadLetter) = true)
    (gaE_BadLetter : PySem.W.findIn K (.ref C_BadLetter) "__getattribute__" = some (some (.builtin "BaseException.__getattribute__")))
    (ggE_BadLetter : PySem.W.findIn K (.ref C_BadLetter) "__getattr__" = some none)
    (sbE_BadLetter : PySem.W.subIn K (.ref C_BadLetter) (.type "BaseException") = some true)
    (hdE_BadLetter : PySem.W.hasDictIn K C_BadLetter = true)
    (caE_BadLetter : PySem.W.findIn K (.ref C_BadLetter) "__class__" = some (some (.builtin "object.__class__")))
    (mrE_BadLetter : PySem.W.mroIn K C_BadLetter (.type "object") = some true)
    (xL_BadLetter : K.lookup C_BadLetter = some (excClassObj nm_BadLetter q_BadLetter C_BadLetter N_BadLetter bs_BadLetter bm_BadLetter true sn_BadLetter sub_BadLetter ab_BadLetter col_BadLetter dd_BadLetter m0_BadLetter m1_BadLetter m2_BadLetter m3_BadLetter m5_BadLetter "ValueError.__new__"))
    (hb_BadLetter : PySem.HandSPX.refsVE bm_BadLetter = true)
    (saE_BadLetter : PySem.W.findIn K (.ref C_BadLetter) "__setattr__" = some (some (.builtin "object.__setattr__")))
    (iE_BadLetter : PySem.W.findIn K (.ref C_BadLetter) "__init__" = some (some (.ref fi_BadLetter))) (tiE_BadLetter : PySem.W.typeIn K (.ref fi_BadLetter) = some (.type "function"))
    (lE_BadLetter : K.lookup fi_BadLetter = some ⟨ocE_BadLetter, odE_BadLetter, .func (PySem.W.fnOf "__init__" "BadLetter.__init__" (defArgs s_BadLetter___init__) (defBody s_BadLetter___init__) (defScope s_BadLetter___init__) .none kVE_BadLetter dcE_BadLetter pmE_BadLetter anE_BadLetter cdE_BadLetter ctE_BadLetter), slE_BadLetter⟩) (ccE_BadLetter : PySem.W.codeIn K cdE_BadLetter "BadLetter.__init__" = true) (kpE_BadLetter : PySem.W.keepIn K (.ref fi_BadLetter) = true)
    (nfE_BadLetter_index : PySem.W.findIn K (.ref C_BadLetter) "index" = some none)
    (kt_BadLetter_PressError : PySem.W.kitOne K (.ref C_BadLetter) (.ref C_PressError) = some true)
    (kt_BadLetter_BadAlphabet : PySem.W.kitOne K (.ref C_BadLetter) (.ref C_BadAlphabet) = some false)
    (kt_BadLetter_BadLetter : PySem.W.kitOne K (.ref C_BadLetter) (.ref C_BadLetter) = some true)
    (kt_BadLetter_BadRow : PySem.W.kitOne K (.ref C_BadLetter) (.ref C_BadRow) = some false)
    (kt_BadLetter_BadTail : PySem.W.kitOne K (.ref C_BadLetter) (.ref C_BadTail) = some false)
    (kt_BadLetter_BadRank : PySem.W.kitOne K (.ref C_BadLetter) (.ref C_BadRank) = some false)
    (kt_BadLetter_NotBits : PySem.W.kitOne K (.ref C_BadLetter) (.ref C_NotBits) = some false)
    (kt_BadLetter_BadIndex : PySem.W.kitOne K (.ref C_BadLetter) (.ref C_BadIndex) = some false)
    (kt_BadLetter_BadStanding : PySem.W.kitOne K (.ref C_BadLetter) (.ref C_BadStanding) = some false)
    (kt_BadLetter_BadRule : PySem.W.kitOne K (.ref C_BadLetter) (.ref C_BadRule) = some false)
    (kt_BadLetter_AlphabetsDiffer : PySem.W.kitOne K (.ref C_BadLetter) (.ref C_AlphabetsDiffer) = some false)
    (kt_BadLetter_DoesNotComeBack : PySem.W.kitOne K (.ref C_BadLetter) (.ref C_DoesNotComeBack) = some false)
    (kt_BadLetter_TooLarge : PySem.W.kitOne K (.ref C_BadLetter) (.ref C_TooLarge) = some false)
    (kt_BadLetter_NotWritten : PySem.W.kitOne K (.ref C_BadLetter) (.ref C_NotWritten) = some false)
    (kt_BadLetter_NoSuchText : PySem.W.kitOne K (.ref C_BadLetter) (.ref C_NoSuchText) = some false)
    (kt_BadLetter_BadName : PySem.W.kitOne K (.ref C_BadLetter) (.ref C_BadName) = some false)
    (kt_BadLetter_NameTaken : PySem.W.kitOne K (.ref C_BadLetter) (.ref C_NameTaken) = some false)
    (kt_BadLetter_NoName : PySem.W.kitOne K (.ref C_BadLetter) (.ref C_NoName) = some false)
    (kt_BadLetter_EmptyRing : PySem.W.kitOne K (.ref C_BadLetter) (.ref C_EmptyRing) = some false)
    (kt_BadLetter_NotInLot : PySem.W.kitOne K (.ref C_BadLetter) (.ref C_NotInLot) = some false)
    (kt_BadLetter_BadBuild : PySem.W.kitOne K (.ref C_BadLetter) (.ref C_BadBuild) = some false)
    (kt_BadLetter_BadGrowth : PySem.W.kitOne K (.ref C_BadLetter) (.ref C_BadGrowth) = some false)
    (kt_BadLetter_EmptyText : PySem.W.kitOne K (.ref C_BadLetter) (.ref C_EmptyText) = some false)
    (kt_BadLetter_NothingToUndo : PySem.W.kitOne K (.ref C_BadLetter) (.ref C_NothingToUndo) = some false)
    (kt_BadLetter_NothingToRedo : PySem.W.kitOne K (.ref C_BadLetter) (.ref C_NothingToRedo) = some false)
    (kt_BadLetter_VE : PySem.W.kitOne K (.ref C_BadLetter) (.type "ValueError") = some true)
    (ex_BadLetter_BadAlphabet : PySem.W.exmOne K (.ref C_BadLetter) (.ref C_BadAlphabet) = some false)
    (ex_BadLetter_BadLetter : PySem.W.exmOne K (.ref C_BadLetter) (.ref C_BadLetter) = some true)
    (aC_Cut : PySem.W.nsIn K mainGlobals "Cut" = some (some (.ref C_Cut)))
    (pg_Cut : PySem.W.plainGet K C_Cut Str.empty = true) (hd_Cut : PySem.W.hasDictIn K C_Cut = true) (po_Cut : PySem.W.plainOver K C_Cut = true) (sa_Cut : PySem.W.findIn K (.ref C_Cut) "__setattr__" = some (some (.builtin "object.__setattr__"))) (mk_Cut : PySem.W.makesIn K C_Cut = true) (kc_Cut : PySem.W.keepIn K (.ref C_Cut) = true)
    (n_Cut_alphabet : PySem.W.findIn K (.ref C_Cut) "alphabet" = some none)
    (n_Cut_rows : PySem.W.findIn K (.ref C_Cut) "rows" = some none)
    (n_Cut_tail : PySem.W.findIn K (.ref C_Cut) "tail" = some none)
    (n_Cut_pieces : PySem.W.findIn K (.ref C_Cut) "pieces" = some none)
    (n_Cut_many : PySem.W.findIn K (.ref C_Cut) "many" = some none)
    (n_Cut_text : PySem.W.findIn K (.ref C_Cut) "text" = some none)
    (n_Cut_starts : PySem.W.findIn K (.ref C_Cut) "starts" = some none)
    (hcQ_Cut : PySem.W.findIn K (.ref C_Cut) "__class__" = some (some (.builtin "object.__class__"))) (moQ_Cut : PySem.W.mroIn K C_Cut (.type "object") = some true) (kkQ_Cut : PySem.W.kitOne K (.ref C_Cut) (.ref C_Cut) = some true) (ksQ_Cut : PySem.W.kitOne K (.type "str") (.ref C_Cut) = some false)
    (a36 : PySem.W.findIn K (.ref C_Cut) "__init__" = some (some (.ref f36))) (i36 : PySem.W.isFn K (.ref f36) = true)
    (l36 : K.lookup f36 = some ⟨oc36, od36, .func (PySem.W.fnOf "__init__" "Cut.__init__" (defArgs s_Cut___init__) (defBody s_Cut___init__) (defScope s_Cut___init__) .none kV36 dc36 pm36 an36 cd36 ct36), sl36⟩)
    (c36 : PySem.W.codeIn K cd36 "Cut.__init__" = true) (k36 : PySem.W.keepIn K (.ref f36) = true)
    (a37 : PySem.W.findIn K (.ref C_Cut) "__eq__" = some (some (.ref f37))) (i37 : PySem.W.isFn K (.ref f37) = true)
    (l37 : K.lookup f37 = some ⟨oc37, od37, .func (PySem.W.fnOf "__eq__" "Cut.__eq__" (defArgs s_Cut___eq__) (defBody s_Cut___eq__) (defScope s_Cut___eq__) .none kV37 dc37 pm37 an37 cd37 ct37), sl37⟩)
    (c37 : PySem.W.codeIn K cd37 "Cut.__eq__" = true) (k37 : PySem.W.keepIn K (.ref f37) = true)
    (z_ValueError : PySem.W.nsIn K mainGlobals "ValueError" = some none)
    (z_all : PySem.W.nsIn K mainGlobals "all" = some none)
    (z_bool : PySem.W.nsIn K mainGlobals "bool" = some none)
    (z_enumerate : PySem.W.nsIn K mainGlobals "enumerate" = some none)
    (z_int : PySem.W.nsIn K mainGlobals "int" = some none)
    (z_isinstance : PySem.W.nsIn K mainGlobals "isinstance" = some none)
    (z_len : PySem.W.nsIn K mainGlobals "len" = some none)
    (z_list : PySem.W.nsIn K mainGlobals "list" = some none)
    (z_max : PySem.W.nsIn K mainGlobals "max" = some none)
    (z_min : PySem.W.nsIn K mainGlobals "min" = some none)
    (z_range : PySem.W.nsIn K mainGlobals "range" = some none)
    (z_repr : PySem.W.nsIn K mainGlobals "repr" = some none)
    (z_sorted : PySem.W.nsIn K mainGlobals "sorted" = some none)
    (z_str : PySem.W.nsIn K mainGlobals "str" = some none)
    (z_tuple : PySem.W.nsIn K mainGlobals "tuple" = some none)
    (z_zip : PySem.W.nsIn K mainGlobals "zip" = some none)
    (g_LETTERS : PySem.W.nsIn K mainGlobals "LETTERS" = some (some (.str (Str.ofString "0123456789abcdefghijklmnopqrstuvwxyz") t_LETTERS)))
    (g_MOST_LETTERS : PySem.W.nsIn K mainGlobals "MOST_LETTERS" = some (some (.int 6 t_MOST_LETTERS)))
    : ∃ fd : FuncData, (∀ (s : Shared) (v : Value), BindsTo s fd ⟨[v], []⟩ [("script", v)]) ∧ ∀ base : Heap, K.In base → base.Ns mainGlobals mg → FnG l.prog w K mg base CX0 9 fa fd ["script"] (spLaw K) := by
  have e := hfa.symm.trans (PySem.W.mg_of X G a35)
  cases e
  have T : Top K mg C_Cut := { z_ValueError := PySem.W.mg_none_of X G z_ValueError, z_all := PySem.W.mg_none_of X G z_all, z_bool := PySem.W.mg_none_of X G z_bool, z_enumerate := PySem.W.mg_none_of X G z_enumerate, z_int := PySem.W.mg_none_of X G z_int, z_isinstance := PySem.W.mg_none_of X G z_isinstance, z_len := PySem.W.mg_none_of X G z_len, z_list := PySem.W.mg_none_of X G z_list, z_max := PySem.W.mg_none_of X G z_max, z_min := PySem.W.mg_none_of X G z_min, z_range := PySem.W.mg_none_of X G z_range, z_repr := PySem.W.mg_none_of X G z_repr, z_sorted := PySem.W.mg_none_of X G z_sorted, z_str := PySem.W.mg_none_of X G z_str, z_tuple := PySem.W.mg_none_of X G z_tuple, z_zip := PySem.W.mg_none_of X G z_zip, c_Cut := PySem.W.mg_of X G aC_Cut, cl_Cut := ⟨pg_Cut, hd_Cut, po_Cut, sa_Cut⟩, n_Cut_alphabet := n_Cut_alphabet, n_Cut_rows := n_Cut_rows, n_Cut_tail := n_Cut_tail, n_Cut_pieces := n_Cut_pieces, n_Cut_many := n_Cut_many, n_Cut_text := n_Cut_text, n_Cut_starts := n_Cut_starts, g_LETTERS := ⟨t_LETTERS, PySem.W.mg_of X G g_LETTERS⟩, g_MOST_LETTERS := ⟨t_MOST_LETTERS, PySem.W.mg_of X G g_MOST_LETTERS⟩ }
  have TE : ETop K mg C_PressError C_BadAlphabet C_BadLetter C_BadRow C_BadTail C_BadRank C_NotBits C_BadIndex C_BadStanding C_BadRule C_AlphabetsDiffer C_DoesNotComeBack C_TooLarge C_NotWritten C_NoSuchText C_BadName C_NameTaken C_NoName C_EmptyRing C_NotInLot C_BadBuild C_BadGrowth C_EmptyText C_NothingToUndo C_NothingToRedo := { c_PressError := PySem.W.mg_of X G aE_PressError, c_BadAlphabet := PySem.W.mg_of X G aE_BadAlphabet, c_BadLetter := PySem.W.mg_of X G aE_BadLetter, c_BadRow := PySem.W.mg_of X G aE_BadRow, c_BadTail := PySem.W.mg_of X G aE_BadTail, c_BadRank := PySem.W.mg_of X G aE_BadRank, c_NotBits := PySem.W.mg_of X G aE_NotBits, c_BadIndex := PySem.W.mg_of X G aE_BadIndex, c_BadStanding := PySem.W.mg_of X G aE_BadStanding, c_BadRule := PySem.W.mg_of X G aE_BadRule, c_AlphabetsDiffer := PySem.W.mg_of X G aE_AlphabetsDiffer, c_DoesNotComeBack := PySem.W.mg_of X G aE_DoesNotComeBack, c_TooLarge := PySem.W.mg_of X G aE_TooLarge, c_NotWritten := PySem.W.mg_of X G aE_NotWritten, c_NoSuchText := PySem.W.mg_of X G aE_NoSuchText, c_BadName := PySem.W.mg_of X G aE_BadName, c_NameTaken := PySem.W.mg_of X G aE_NameTaken, c_NoName := PySem.W.mg_of X G aE_NoName, c_EmptyRing := PySem.W.mg_of X G aE_EmptyRing, c_NotInLot := PySem.W.mg_of X G aE_NotInLot, c_BadBuild := PySem.W.mg_of X G aE_BadBuild, c_BadGrowth := PySem.W.mg_of X G aE_BadGrowth, c_EmptyText := PySem.W.mg_of X G aE_EmptyText, c_NothingToUndo := PySem.W.mg_of X G aE_NothingToUndo, c_NothingToRedo := PySem.W.mg_of X G aE_NothingToRedo, nf_BadAlphabet_alphabet := nfE_BadAlphabet_alphabet, kt_BadAlphabet_PressError := kt_BadAlphabet_PressError, kt_BadAlphabet_BadAlphabet := kt_BadAlphabet_BadAlphabet, kt_BadAlphabet_BadLetter := kt_BadAlphabet_BadLetter, kt_BadAlphabet_BadRow := kt_BadAlphabet_BadRow, kt_BadAlphabet_BadTail := kt_BadAlphabet_BadTail, kt_BadAlphabet_BadRank := kt_BadAlphabet_BadRank, kt_BadAlphabet_NotBits := kt_BadAlphabet_NotBits, kt_BadAlphabet_BadIndex := kt_BadAlphabet_BadIndex, kt_BadAlphabet_BadStanding := kt_BadAlphabet_BadStanding, kt_BadAlphabet_BadRule := kt_BadAlphabet_BadRule, kt_BadAlphabet_AlphabetsDiffer := kt_BadAlphabet_AlphabetsDiffer, kt_BadAlphabet_DoesNotComeBack := kt_BadAlphabet_DoesNotComeBack, kt_BadAlphabet_TooLarge := kt_BadAlphabet_TooLarge, kt_BadAlphabet_NotWritten := kt_BadAlphabet_NotWritten, kt_BadAlphabet_NoSuchText := kt_BadAlphabet_NoSuchText, kt_BadAlphabet_BadName := kt_BadAlphabet_BadName, kt_BadAlphabet_NameTaken := kt_BadAlphabet_NameTaken, kt_BadAlphabet_NoName := kt_BadAlphabet_NoName, kt_BadAlphabet_EmptyRing := kt_BadAlphabet_EmptyRing, kt_BadAlphabet_NotInLot := kt_BadAlphabet_NotInLot, kt_BadAlphabet_BadBuild := kt_BadAlphabet_BadBuild, kt_BadAlphabet_BadGrowth := kt_BadAlphabet_BadGrowth, kt_BadAlphabet_EmptyText := kt_BadAlphabet_EmptyText, kt_BadAlphabet_NothingToUndo := kt_BadAlphabet_NothingToUndo, kt_BadAlphabet_NothingToRedo := kt_BadAlphabet_NothingToRedo, kt_BadAlphabet_VE := kt_BadAlphabet_VE, ex_BadAlphabet_BadAlphabet := ex_BadAlphabet_BadAlphabet, ex_BadAlphabet_BadLetter := ex_BadAlphabet_BadLetter, nf_BadLetter_index := nfE_BadLetter_index, kt_BadLetter_PressError := kt_BadLetter_PressError, kt_BadLetter_BadAlphabet := kt_BadLetter_BadAlphabet, kt_BadLetter_BadLetter := kt_BadLetter_BadLetter, kt_BadLetter_BadRow := kt_BadLetter_BadRow, kt_BadLetter_BadTail := kt_BadLetter_BadTail, kt_BadLetter_BadRank := kt_BadLetter_BadRank, kt_BadLetter_NotBits := kt_BadLetter_NotBits, kt_BadLetter_BadIndex := kt_BadLetter_BadIndex, kt_BadLetter_BadStanding := kt_BadLetter_BadStanding, kt_BadLetter_BadRule := kt_BadLetter_BadRule, kt_BadLetter_AlphabetsDiffer := kt_BadLetter_AlphabetsDiffer, kt_BadLetter_DoesNotComeBack := kt_BadLetter_DoesNotComeBack, kt_BadLetter_TooLarge := kt_BadLetter_TooLarge, kt_BadLetter_NotWritten := kt_BadLetter_NotWritten, kt_BadLetter_NoSuchText := kt_BadLetter_NoSuchText, kt_BadLetter_BadName := kt_BadLetter_BadName, kt_BadLetter_NameTaken := kt_BadLetter_NameTaken, kt_BadLetter_NoName := kt_BadLetter_NoName, kt_BadLetter_EmptyRing := kt_BadLetter_EmptyRing, kt_BadLetter_NotInLot := kt_BadLetter_NotInLot, kt_BadLetter_BadBuild := kt_BadLetter_BadBuild, kt_BadLetter_BadGrowth := kt_BadLetter_BadGrowth, kt_BadLetter_EmptyText := kt_BadLetter_EmptyText, kt_BadLetter_NothingToUndo := kt_BadLetter_NothingToUndo, kt_BadLetter_NothingToRedo := kt_BadLetter_NothingToRedo, kt_BadLetter_VE := kt_BadLetter_VE, ex_BadLetter_BadAlphabet := ex_BadLetter_BadAlphabet, ex_BadLetter_BadLetter := ex_BadLetter_BadLetter }
  have xc_BadAlphabet : ExcC K C_BadAlphabet := ⟨gaE_BadAlphabet, ggE_BadAlphabet, sbE_BadAlphabet, hdE_BadAlphabet, caE_BadAlphabet, hn_get, ht_get, mrE_BadAlphabet⟩
  have oe_BadAlphabet : OexC K C_BadAlphabet := ⟨⟨_, _, _, _, _, _, _, _, _, _, _, _, _, _, _, xL_BadAlphabet, hb_BadAlphabet⟩, saE_BadAlphabet, sbE_BadAlphabet, ty_BadAlphabet, kcE_BadAlphabet⟩
  have FI_BadAlphabet := fun_mk (st := s_BadAlphabet___init__) lE_BadAlphabet ccE_BadAlphabet kpE_BadAlphabet
  have GE_BadAlphabet : ∀ base : Heap, Er_BadAlphabet l.prog w K mg base C_BadAlphabet := fun base => ⟨oe_BadAlphabet, PySem.W.mg_of X G aE_BadAlphabet, ⟨gaE_BadAlphabet, ggE_BadAlphabet, sbE_BadAlphabet, hdE_BadAlphabet⟩, xc_BadAlphabet, fi_BadAlphabet, _, iE_BadAlphabet, tiE_BadAlphabet, he_BadAlphabet FI_BadAlphabet oe_BadAlphabet nfE_BadAlphabet_alphabet, FI_BadAlphabet.binds fun _ _ _ _ _ _ us hl => match us, hl with | [_, _], _ => rfl⟩
  have xc_BadLetter : ExcC K C_BadLetter := ⟨gaE_BadLetter, ggE_BadLetter, sbE_BadLetter, hdE_BadLetter, caE_BadLetter, hn_get, ht_get, mrE_BadLetter⟩
  have oe_BadLetter : OexC K C_BadLetter := ⟨⟨_, _, _, _, _, _, _, _, _, _, _, _, _, _, _, xL_BadLetter, hb_BadLetter⟩, saE_BadLetter, sbE_BadLetter, ty_BadLetter, kcE_BadLetter⟩
  have FI_BadLetter := fun_mk (st := s_BadLetter___init__) lE_BadLetter ccE_BadLetter kpE_BadLetter
  have GE_BadLetter : ∀ base : Heap, Er_BadLetter l.prog w K mg base C_BadLetter := fun base => ⟨oe_BadLetter, PySem.W.mg_of X G aE_BadLetter, ⟨gaE_BadLetter, ggE_BadLetter, sbE_BadLetter, hdE_BadLetter⟩, xc_BadLetter, fi_BadLetter, _, iE_BadLetter, tiE_BadLetter, he_BadLetter FI_BadLetter oe_BadLetter nfE_BadLetter_index, FI_BadLetter.binds fun _ _ _ _ _ _ us hl => match us, hl with | [_, _], _ => rfl⟩
  have EQ_Cut : EqC K C_Cut := ⟨hcQ_Cut, hn_get, ht_get, moQ_Cut, kkQ_Cut, ksQ_Cut⟩
  have A_is_alphabet := at_mk (st := s_is_alphabet) X G a0 l0 c0 k0
  have A_is_letter := at_mk (st := s_is_letter) X G a1 l1 c1 k1
  have A_check_alphabet := at_mk (st := s_check_alphabet) X G a2 l2 c2 k2
  have A_check_text := at_mk (st := s_check_text) X G a3 l3 c3 k3
  have A_is_whole := at_mk (st := s_is_whole) X G a4 l4 c4 k4
  have A_is_number_below := at_mk (st := s_is_number_below) X G a5 l5 c5 k5
  have A_as_tuples := at_mk (st := s_as_tuples) X G a6 l6 c6 k6
  have A_check_rows := at_mk (st := s_check_rows) X G a7 l7 c7 k7
  have A_pieces_of := at_mk (st := s_pieces_of) X G a8 l8 c8 k8
  have A_starts_of := at_mk (st := s_starts_of) X G a9 l9 c9 k9
  have A_cut_of := at_mk (st := s_cut_of) X G a10 l10 c10 k10
  have A__law_whole := at_mk (st := s__law_whole) X G a11 l11 c11 k11
  have A__law_cell := at_mk (st := s__law_cell) X G a12 l12 c12 k12
  have A__law_digits := at_mk (st := s__law_digits) X G a13 l13 c13 k13
  have A__law_signs := at_mk (st := s__law_signs) X G a14 l14 c14 k14
  have A__law_plain_word := at_mk (st := s__law_plain_word) X G a15 l15 c15 k15
  have A__law_counting_word := at_mk (st := s__law_counting_word) X G a16 l16 c16 k16
  have A__law_short_word := at_mk (st := s__law_short_word) X G a17 l17 c17 k17
  have A__law_ruled_word := at_mk (st := s__law_ruled_word) X G a18 l18 c18 k18
  have A__law_free_word := at_mk (st := s__law_free_word) X G a19 l19 c19 k19
  have A__law_characters := at_mk (st := s__law_characters) X G a20 l20 c20 k20
  have A__law_is_alphabet := at_mk (st := s__law_is_alphabet) X G a21 l21 c21 k21
  have A__law_stray := at_mk (st := s__law_stray) X G a22 l22 c22 k22
  have A__law_spoilt_word := at_mk (st := s__law_spoilt_word) X G a23 l23 c23 k23
  have A__law_odd_signs := at_mk (st := s__law_odd_signs) X G a24 l24 c24 k24
  have A__law_cut := at_mk (st := s__law_cut) X G a25 l25 c25 k25
  have A__law_near_word := at_mk (st := s__law_near_word) X G a26 l26 c26 k26
  have A__law_other_signs := at_mk (st := s__law_other_signs) X G a27 l27 c27 k27
  have A__law_says := at_mk (st := s__law_says) X G a28 l28 c28 k28
  have A__law_kinds := at_mk (st := s__law_kinds) X G a29 l29 c29 k29
  have A__law_is_cut := at_mk (st := s__law_is_cut) X G a30 l30 c30 k30
  have A__law_shown := at_mk (st := s__law_shown) X G a31 l31 c31 k31
  have A__law_kin := at_mk (st := s__law_kin) X G a32 l32 c32 k32
  have A__law_door := at_mk (st := s__law_door) X G a33 l33 c33 k33
  have A__law_equality := at_mk (st := s__law_equality) X G a34 l34 c34 k34
  have A_Cut___init__ : AtI K C_Cut "Cut.__init__" s_Cut___init__ := ⟨⟨f36, _, fun_mk l36 c36 k36, ⟨mk_Cut, a36, i36, kc_Cut⟩⟩⟩
  have A_Cut___eq__ : AtM K C_Cut "__eq__" "Cut.__eq__" s_Cut___eq__ := ⟨⟨f37, _, fun_mk l37 c37 k37, ⟨a37, i37, k37⟩⟩⟩
  refine ⟨PySem.W.fnOf "law" "law" (defArgs s_law) (defBody s_law) (defScope s_law) .none kV35 dc35 pm35 an35 cd35 ct35, fun s v => .of_eq rfl, fun base _ _ => ?_⟩
  have h_isal := has_isal (P := l.prog) (w := w) (base := base) A_is_alphabet T
  have h_isalB := has_isalB (P := l.prog) (w := w) (base := base) A_is_alphabet T
  have h_let := has_let (P := l.prog) (w := w) (base := base) A_is_letter T
  have h_whole := has_whole (P := l.prog) (w := w) (base := base) A_is_whole T
  have h_below := has_below A_is_number_below T h_whole
  have h_ckal := has_ckal A_check_alphabet T h_isal
  have h_cktx := has_cktx (P := l.prog) (w := w) (base := base) A_check_text T
  have h_ckalB := has_ckalB A_check_alphabet T (GE_BadAlphabet base) h_isalB
  have h_cktxB := has_cktxB A_check_text T (GE_BadLetter base)
  have h_ckal2 := has_both h_ckal h_ckalB (by decide)
  have h_cktx2 := has_both h_cktx h_cktxB (by decide)
  have h_as := has_as (P := l.prog) (w := w) (base := base) A_as_tuples T
  have h_ckr := has_ckr A_check_rows T h_let h_below
  have h_pcs := has_pcs (P := l.prog) (w := w) (base := base) A_pieces_of T
  have h_sts := has_sts (P := l.prog) (w := w) (base := base) A_starts_of T
  have h_init := has_init A_Cut___init__ T h_ckal h_as h_ckr h_below h_pcs h_sts
  have h_cut := has_cut A_cut_of T h_ckal h_cktx h_init
  have h_cutB := has_cutB A_cut_of T h_ckal2 h_cktx2 h_init
  have h_cut2 := has_both h_cut h_cutB (by decide)
  have h_ceq := has_ceq (P := l.prog) (w := w) (base := base) A_Cut___eq__ T EQ_Cut
  have h_cell := has_cell (P := l.prog) (w := w) (base := base) A__law_cell T
  have h_digits := has_digits (P := l.prog) (w := w) (base := base) A__law_digits T
  have h_signs := has_signs (P := l.prog) (w := w) (base := base) A__law_signs T
  have h_fw := has_fw (P := l.prog) (w := w) (base := base) A__law_plain_word T
  have h_cw := has_cw (P := l.prog) (w := w) (base := base) A__law_counting_word T
  have h_sw := has_sw A__law_short_word T h_fw h_cw
  have h_rw := has_rw A__law_ruled_word T h_fw h_cw
  have h_fr := has_fr A__law_free_word T h_fw h_digits h_cell
  have h_ch := has_ch (P := l.prog) (w := w) (base := base) A__law_characters T
  have h_ia := has_ia (P := l.prog) (w := w) (base := base) A__law_is_alphabet T
  have h_fs := has_fs (P := l.prog) (w := w) (base := base) A__law_stray T
  have h_spw := has_spw A__law_spoilt_word T h_ch
  have h_odd := has_odd A__law_odd_signs T h_ch
  have h_lc := has_lc (P := l.prog) (w := w) (base := base) A__law_cut T
  have h_nw := has_nw A__law_near_word T h_fw
  have h_os := has_os (P := l.prog) (w := w) (base := base) A__law_other_signs T
  have h_says := has_says (P := l.prog) (w := w) (base := base) A__law_says T
  have h_lwh := has_lwhole (P := l.prog) (w := w) (base := base) A__law_whole T
  have h_kinds := has_kinds A__law_kinds T h_lwh
  have h_is := has_is A__law_is_cut T EQ_Cut h_kinds
  have h_shown := has_shown (P := l.prog) (w := w) (base := base) A__law_shown T
  have hp_whole := hp_lwhole (P := l.prog) (w := w) (base := base) A__law_whole T
  have hp_kn := hp_kin (P := l.prog) (w := w) (base := base) A__law_kin T TE xc_BadAlphabet xc_BadLetter
  have h_door := has_door A__law_door T TE (GE_BadAlphabet base) (GE_BadLetter base) h_cut2 hp_kn hp_whole h_ia h_fs h_is
  have h_equ := has_equ A__law_equality T h_lc h_init h_ceq h_says h_cut
  exact ok_law (fun_mk (st := s_law) l35 c35 k35) T h_signs h_digits h_cell h_sw h_rw h_fr h_nw h_os h_spw h_odd h_cut h_is h_shown h_equ h_door
def q_a0 : Fc := fun K => He.eqO (PySem.W.nsIn K mainGlobals "is_alphabet") (some (some (.ref (He.fAd K ("is_alphabet", none)))))
def q_k0 : Fc := fun K => PySem.W.keepIn K (.ref (He.fAd K ("is_alphabet", none)))
def q_a1 : Fc := fun K => He.eqO (PySem.W.nsIn K mainGlobals "is_letter") (some (some (.ref (He.fAd K ("is_letter", none)))))
def q_k1 : Fc := fun K => PySem.W.keepIn K (.ref (He.fAd K ("is_letter", none)))
def q_a2 : Fc := fun K => He.eqO (PySem.W.nsIn K mainGlobals "check_alphabet") (some (some (.ref (He.fAd K ("check_alphabet", none)))))
def q_k2 : Fc := fun K => PySem.W.keepIn K (.ref (He.fAd K ("check_alphabet", none)))
def q_a3 : Fc := fun K => He.eqO (PySem.W.nsIn K mainGlobals "check_text") (some (some (.ref (He.fAd K ("check_text", none)))))
def q_k3 : Fc := fun K => PySem.W.keepIn K (.ref (He.fAd K ("check_text", none)))
def q_a4 : Fc := fun K => He.eqO (PySem.W.nsIn K mainGlobals "is_whole") (some (some (.ref (He.fAd K ("is_whole", none)))))
def q_k4 : Fc := fun K => PySem.W.keepIn K (.ref (He.fAd K ("is_whole", none)))
def q_a5 : Fc := fun K => He.eqO (PySem.W.nsIn K mainGlobals "is_number_below") (some (some (.ref (He.fAd K ("is_number_below", none)))))
def q_k5 : Fc := fun K => PySem.W.keepIn K (.ref (He.fAd K ("is_number_below", none)))
def q_a6 : Fc := fun K => He.eqO (PySem.W.nsIn K mainGlobals "as_tuples") (some (some (.ref (He.fAd K ("as_tuples", none)))))
def q_k6 : Fc := fun K => PySem.W.keepIn K (.ref (He.fAd K ("as_tuples", none)))
def q_a7 : Fc := fun K => He.eqO (PySem.W.nsIn K mainGlobals "check_rows") (some (some (.ref (He.fAd K ("check_rows", none)))))
def q_k7 : Fc := fun K => PySem.W.keepIn K (.ref (He.fAd K ("check_rows", none)))
def q_a8 : Fc := fun K => He.eqO (PySem.W.nsIn K mainGlobals "pieces_of") (some (some (.ref (He.fAd K ("pieces_of", none)))))
def q_k8 : Fc := fun K => PySem.W.keepIn K (.ref (He.fAd K ("pieces_of", none)))
def q_a9 : Fc := fun K => He.eqO (PySem.W.nsIn K mainGlobals "starts_of") (some (some (.ref (He.fAd K ("starts_of", none)))))
def q_k9 : Fc := fun K => PySem.W.keepIn K (.ref (He.fAd K ("starts_of", none)))
def q_a10 : Fc := fun K => He.eqO (PySem.W.nsIn K mainGlobals "cut_of") (some (some (.ref (He.fAd K ("cut_of", none)))))
def q_k10 : Fc := fun K => PySem.W.keepIn K (.ref (He.fAd K ("cut_of", none)))
def q_a11 : Fc := fun K => He.eqO (PySem.W.nsIn K mainGlobals "_law_whole") (some (some (.ref (He.fAd K ("_law_whole", none)))))
def q_k11 : Fc := fun K => PySem.W.keepIn K (.ref (He.fAd K ("_law_whole", none)))
def q_a12 : Fc := fun K => He.eqO (PySem.W.nsIn K mainGlobals "_law_cell") (some (some (.ref (He.fAd K ("_law_cell", none)))))
def q_k12 : Fc := fun K => PySem.W.keepIn K (.ref (He.fAd K ("_law_cell", none)))
def q_a13 : Fc := fun K => He.eqO (PySem.W.nsIn K mainGlobals "_law_digits") (some (some (.ref (He.fAd K ("_law_digits", none)))))
def q_k13 : Fc := fun K => PySem.W.keepIn K (.ref (He.fAd K ("_law_digits", none)))
def q_a14 : Fc := fun K => He.eqO (PySem.W.nsIn K mainGlobals "_law_signs") (some (some (.ref (He.fAd K ("_law_signs", none)))))
def q_k14 : Fc := fun K => PySem.W.keepIn K (.ref (He.fAd K ("_law_signs", none)))
def q_a15 : Fc := fun K => He.eqO (PySem.W.nsIn K mainGlobals "_law_plain_word") (some (some (.ref (He.fAd K ("_law_plain_word", none)))))
def q_k15 : Fc := fun K => PySem.W.keepIn K (.ref (He.fAd K ("_law_plain_word", none)))
def q_a16 : Fc := fun K => He.eqO (PySem.W.nsIn K mainGlobals "_law_counting_word") (some (some (.ref (He.fAd K ("_law_counting_word", none)))))
def q_k16 : Fc := fun K => PySem.W.keepIn K (.ref (He.fAd K ("_law_counting_word", none)))
def q_a17 : Fc := fun K => He.eqO (PySem.W.nsIn K mainGlobals "_law_short_word") (some (some (.ref (He.fAd K ("_law_short_word", none)))))
def q_k17 : Fc := fun K => PySem.W.keepIn K (.ref (He.fAd K ("_law_short_word", none)))
def q_a18 : Fc := fun K => He.eqO (PySem.W.nsIn K mainGlobals "_law_ruled_word") (some (some (.ref (He.fAd K ("_law_ruled_word", none)))))
def q_k18 : Fc := fun K => PySem.W.keepIn K (.ref (He.fAd K ("_law_ruled_word", none)))
def q_a19 : Fc := fun K => He.eqO (PySem.W.nsIn K mainGlobals "_law_free_word") (some (some (.ref (He.fAd K ("_law_free_word", none)))))
def q_k19 : Fc := fun K => PySem.W.keepIn K (.ref (He.fAd K ("_law_free_word", none)))
def q_a20 : Fc := fun K => He.eqO (PySem.W.nsIn K mainGlobals "_law_characters") (some (some (.ref (He.fAd K ("_law_characters", none)))))
def q_k20 : Fc := fun K => PySem.W.keepIn K (.ref (He.fAd K ("_law_characters", none)))
def q_a21 : Fc := fun K => He.eqO (PySem.W.nsIn K mainGlobals "_law_is_alphabet") (some (some (.ref (He.fAd K ("_law_is_alphabet", none)))))
def q_k21 : Fc := fun K => PySem.W.keepIn K (.ref (He.fAd K ("_law_is_alphabet", none)))
def q_a22 : Fc := fun K => He.eqO (PySem.W.nsIn K mainGlobals "_law_stray") (some (some (.ref (He.fAd K ("_law_stray", none)))))
def q_k22 : Fc := fun K => PySem.W.keepIn K (.ref (He.fAd K ("_law_stray", none)))
def q_a23 : Fc := fun K => He.eqO (PySem.W.nsIn K mainGlobals "_law_spoilt_word") (some (some (.ref (He.fAd K ("_law_spoilt_word", none)))))
def q_k23 : Fc := fun K => PySem.W.keepIn K (.ref (He.fAd K ("_law_spoilt_word", none)))
def q_a24 : Fc := fun K => He.eqO (PySem.W.nsIn K mainGlobals "_law_odd_signs") (some (some (.ref (He.fAd K ("_law_odd_signs", none)))))
def q_k24 : Fc := fun K => PySem.W.keepIn K (.ref (He.fAd K ("_law_odd_signs", none)))
def q_a25 : Fc := fun K => He.eqO (PySem.W.nsIn K mainGlobals "_law_cut") (some (some (.ref (He.fAd K ("_law_cut", none)))))
def q_k25 : Fc := fun K => PySem.W.keepIn K (.ref (He.fAd K ("_law_cut", none)))
def q_a26 : Fc := fun K => He.eqO (PySem.W.nsIn K mainGlobals "_law_near_word") (some (some (.ref (He.fAd K ("_law_near_word", none)))))
def q_k26 : Fc := fun K => PySem.W.keepIn K (.ref (He.fAd K ("_law_near_word", none)))
def q_a27 : Fc := fun K => He.eqO (PySem.W.nsIn K mainGlobals "_law_other_signs") (some (some (.ref (He.fAd K ("_law_other_signs", none)))))
def q_k27 : Fc := fun K => PySem.W.keepIn K (.ref (He.fAd K ("_law_other_signs", none)))
def q_a28 : Fc := fun K => He.eqO (PySem.W.nsIn K mainGlobals "_law_says") (some (some (.ref (He.fAd K ("_law_says", none)))))
def qs_0 : List Fc := [q_a0, q_k0, q_a1, q_k1, q_a2, q_k2, q_a3, q_k3, q_a4, q_k4, q_a5, q_k5, q_a6, q_k6, q_a7, q_k7, q_a8, q_k8, q_a9, q_k9, q_a10, q_k10, q_a11, q_k11, q_a12, q_k12, q_a13, q_k13, q_a14, q_k14, q_a15, q_k15, q_a16, q_k16, q_a17, q_k17, q_a18, q_k18, q_a19, q_k19, q_a20, q_k20, q_a21, q_k21, q_a22, q_k22, q_a23, q_k23, q_a24, q_k24, q_a25, q_k25, q_a26, q_k26, q_a27, q_k27, q_a28]
def q_k28 : Fc := fun K => PySem.W.keepIn K (.ref (He.fAd K ("_law_says", none)))
def q_a29 : Fc := fun K => He.eqO (PySem.W.nsIn K mainGlobals "_law_kinds") (some (some (.ref (He.fAd K ("_law_kinds", none)))))
def q_k29 : Fc := fun K => PySem.W.keepIn K (.ref (He.fAd K ("_law_kinds", none)))
def q_a30 : Fc := fun K => He.eqO (PySem.W.nsIn K mainGlobals "_law_is_cut") (some (some (.ref (He.fAd K ("_law_is_cut", none)))))
def q_k30 : Fc := fun K => PySem.W.keepIn K (.ref (He.fAd K ("_law_is_cut", none)))
def q_a31 : Fc := fun K => He.eqO (PySem.W.nsIn K mainGlobals "_law_shown") (some (some (.ref (He.fAd K ("_law_shown", none)))))
def q_k31 : Fc := fun K => PySem.W.keepIn K (.ref (He.fAd K ("_law_shown", none)))
def q_a32 : Fc := fun K => He.eqO (PySem.W.nsIn K mainGlobals "_law_kin") (some (some (.ref (He.fAd K ("_law_kin", none)))))
def q_k32 : Fc := fun K => PySem.W.keepIn K (.ref (He.fAd K ("_law_kin", none)))
def q_a33 : Fc := fun K => He.eqO (PySem.W.nsIn K mainGlobals "_law_door") (some (some (.ref (He.fAd K ("_law_door", none)))))
def q_k33 : Fc := fun K => PySem.W.keepIn K (.ref (He.fAd K ("_law_door", none)))
def q_a34 : Fc := fun K => He.eqO (PySem.W.nsIn K mainGlobals "_law_equality") (some (some (.ref (He.fAd K ("_law_equality", none)))))
def q_k34 : Fc := fun K => PySem.W.keepIn K (.ref (He.fAd K ("_law_equality", none)))
def q_a35 : Fc := fun K => He.eqO (PySem.W.nsIn K mainGlobals "law") (some (some (.ref (He.fAd K ("law", none)))))
def q_k35 : Fc := fun K => PySem.W.keepIn K (.ref (He.fAd K ("law", none)))
def q_hn_get : Fc := fun K => He.eqO (PySem.W.specialIn K (.builtin "object.__class__") "__get__") (some (some (.builtin "getset_descriptor.__get__")))
def q_ht_get : Fc := fun K => obB (PySem.W.takesIn K (.builtin "object.__class__")) true
def q_aE_PressError : Fc := fun K => He.eqO (PySem.W.nsIn K mainGlobals "PressError") (some (some (.ref (He.ga K "PressError"))))
def q_aE_BadAlphabet : Fc := fun K => He.eqO (PySem.W.nsIn K mainGlobals "BadAlphabet") (some (some (.ref (He.ga K "BadAlphabet"))))
def q_aE_BadLetter : Fc := fun K => He.eqO (PySem.W.nsIn K mainGlobals "BadLetter") (some (some (.ref (He.ga K "BadLetter"))))
def q_aE_BadRow : Fc := fun K => He.eqO (PySem.W.nsIn K mainGlobals "BadRow") (some (some (.ref (He.ga K "BadRow"))))
def q_aE_BadTail : Fc := fun K => He.eqO (PySem.W.nsIn K mainGlobals "BadTail") (some (some (.ref (He.ga K "BadTail"))))
def q_aE_BadRank : Fc := fun K => He.eqO (PySem.W.nsIn K mainGlobals "BadRank") (some (some (.ref (He.ga K "BadRank"))))
def q_aE_NotBits : Fc := fun K => He.eqO (PySem.W.nsIn K mainGlobals "NotBits") (some (some (.ref (He.ga K "NotBits"))))
def q_aE_BadIndex : Fc := fun K => He.eqO (PySem.W.nsIn K mainGlobals "BadIndex") (some (some (.ref (He.ga K "BadIndex"))))
def q_aE_BadStanding : Fc := fun K => He.eqO (PySem.W.nsIn K mainGlobals "BadStanding") (some (some (.ref (He.ga K "BadStanding"))))
def q_aE_BadRule : Fc := fun K => He.eqO (PySem.W.nsIn K mainGlobals "BadRule") (some (some (.ref (He.ga K "BadRule"))))
def q_aE_AlphabetsDiffer : Fc := fun K => He.eqO (PySem.W.nsIn K mainGlobals "AlphabetsDiffer") (some (some (.ref (He.ga K "AlphabetsDiffer"))))
def q_aE_DoesNotComeBack : Fc := fun K => He.eqO (PySem.W.nsIn K mainGlobals "DoesNotComeBack") (some (some (.ref (He.ga K "DoesNotComeBack"))))
def q_aE_TooLarge : Fc := fun K => He.eqO (PySem.W.nsIn K mainGlobals "TooLarge") (some (some (.ref (He.ga K "TooLarge"))))
def q_aE_NotWritten : Fc := fun K => He.eqO (PySem.W.nsIn K mainGlobals "NotWritten") (some (some (.ref (He.ga K "NotWritten"))))
def q_aE_NoSuchText : Fc := fun K => He.eqO (PySem.W.nsIn K mainGlobals "NoSuchText") (some (some (.ref (He.ga K "NoSuchText"))))
def q_aE_BadName : Fc := fun K => He.eqO (PySem.W.nsIn K mainGlobals "BadName") (some (some (.ref (He.ga K "BadName"))))
def q_aE_NameTaken : Fc := fun K => He.eqO (PySem.W.nsIn K mainGlobals "NameTaken") (some (some (.ref (He.ga K "NameTaken"))))
def q_aE_NoName : Fc := fun K => He.eqO (PySem.W.nsIn K mainGlobals "NoName") (some (some (.ref (He.ga K "NoName"))))
def q_aE_EmptyRing : Fc := fun K => He.eqO (PySem.W.nsIn K mainGlobals "EmptyRing") (some (some (.ref (He.ga K "EmptyRing"))))
def q_aE_NotInLot : Fc := fun K => He.eqO (PySem.W.nsIn K mainGlobals "NotInLot") (some (some (.ref (He.ga K "NotInLot"))))
def q_aE_BadBuild : Fc := fun K => He.eqO (PySem.W.nsIn K mainGlobals "BadBuild") (some (some (.ref (He.ga K "BadBuild"))))
def q_aE_BadGrowth : Fc := fun K => He.eqO (PySem.W.nsIn K mainGlobals "BadGrowth") (some (some (.ref (He.ga K "BadGrowth"))))
def q_aE_EmptyText : Fc := fun K => He.eqO (PySem.W.nsIn K mainGlobals "EmptyText") (some (some (.ref (He.ga K "EmptyText"))))
def q_aE_NothingToUndo : Fc := fun K => He.eqO (PySem.W.nsIn K mainGlobals "NothingToUndo") (some (some (.ref (He.ga K "NothingToUndo"))))
def q_aE_NothingToRedo : Fc := fun K => He.eqO (PySem.W.nsIn K mainGlobals "NothingToRedo") (some (some (.ref (He.ga K "NothingToRedo"))))
def q_ty_BadAlphabet : Fc := fun K => tyB (PySem.W.typeIn K (.ref (He.ga K "BadAlphabet"))) "type"
def q_kcE_BadAlphabet : Fc := fun K => PySem.W.keepIn K (.ref (He.ga K "BadAlphabet"))
def q_gaE_BadAlphabet : Fc := fun K => He.eqO (PySem.W.findIn K (.ref (He.ga K "BadAlphabet")) "__getattribute__") (some (some (.builtin "BaseException.__getattribute__")))
def q_ggE_BadAlphabet : Fc := fun K => He.eqO (PySem.W.findIn K (.ref (He.ga K "BadAlphabet")) "__getattr__") (some none)
def q_sbE_BadAlphabet : Fc := fun K => obB (PySem.W.subIn K (.ref (He.ga K "BadAlphabet")) (.type "BaseException")) true
def q_hdE_BadAlphabet : Fc := fun K => PySem.W.hasDictIn K (He.ga K "BadAlphabet")
def q_caE_BadAlphabet : Fc := fun K => He.eqO (PySem.W.findIn K (.ref (He.ga K "BadAlphabet")) "__class__") (some (some (.builtin "object.__class__")))
def q_mrE_BadAlphabet : Fc := fun K => obB (PySem.W.mroIn K (He.ga K "BadAlphabet") (.type "object")) true
def q_xL_BadAlphabet : Fc := fun K => xcB K (He.ga K "BadAlphabet")
def q_saE_BadAlphabet : Fc := fun K => He.eqO (PySem.W.findIn K (.ref (He.ga K "BadAlphabet")) "__setattr__") (some (some (.builtin "object.__setattr__")))
def q_iE_BadAlphabet : Fc := fun K => He.eqO (PySem.W.findIn K (.ref (He.ga K "BadAlphabet")) "__init__") (some (some (.ref (He.fAd K ("BadAlphabet", some "__init__")))))
def q_tiE_BadAlphabet : Fc := fun K => tyB (PySem.W.typeIn K (.ref (He.fAd K ("BadAlphabet", some "__init__")))) "function"
def q_kpE_BadAlphabet : Fc := fun K => PySem.W.keepIn K (.ref (He.fAd K ("BadAlphabet", some "__init__")))
def q_nfE_BadAlphabet_alphabet : Fc := fun K => He.eqO (PySem.W.findIn K (.ref (He.ga K "BadAlphabet")) "alphabet") (some none)
def q_kt_BadAlphabet_PressError : Fc := fun K => obB (PySem.W.kitOne K (.ref (He.ga K "BadAlphabet")) (.ref (He.ga K "PressError"))) true
def qs_1 : List Fc := [q_k28, q_a29, q_k29, q_a30, q_k30, q_a31, q_k31, q_a32, q_k32, q_a33, q_k33, q_a34, q_k34, q_a35, q_k35, q_hn_get, q_ht_get, q_aE_PressError, q_aE_BadAlphabet, q_aE_BadLetter, q_aE_BadRow, q_aE_BadTail, q_aE_BadRank, q_aE_NotBits, q_aE_BadIndex, q_aE_BadStanding, q_aE_BadRule, q_aE_AlphabetsDiffer, q_aE_DoesNotComeBack, q_aE_TooLarge, q_aE_NotWritten, q_aE_NoSuchText, q_aE_BadName, q_aE_NameTaken, q_aE_NoName, q_aE_EmptyRing, q_aE_NotInLot, q_aE_BadBuild, q_aE_BadGrowth, q_aE_EmptyText, q_aE_NothingToUndo, q_aE_NothingToRedo, q_ty_BadAlphabet, q_kcE_BadAlphabet, q_gaE_BadAlphabet, q_ggE_BadAlphabet, q_sbE_BadAlphabet, q_hdE_BadAlphabet, q_caE_BadAlphabet, q_mrE_BadAlphabet, q_xL_BadAlphabet, q_saE_BadAlphabet, q_iE_BadAlphabet, q_tiE_BadAlphabet, q_kpE_BadAlphabet, q_nfE_BadAlphabet_alphabet, q_kt_BadAlphabet_PressError]
def q_kt_BadAlphabet_BadAlphabet : Fc := fun K => obB (PySem.W.kitOne K (.ref (He.ga K "BadAlphabet")) (.ref (He.ga K "BadAlphabet"))) true
def q_kt_BadAlphabet_BadLetter : Fc := fun K => obB (PySem.W.kitOne K (.ref (He.ga K "BadAlphabet")) (.ref (He.ga K "BadLetter"))) false
def q_kt_BadAlphabet_BadRow : Fc := fun K => obB (PySem.W.kitOne K (.ref (He.ga K "BadAlphabet")) (.ref (He.ga K "BadRow"))) false
def q_kt_BadAlphabet_BadTail : Fc := fun K => obB (PySem.W.kitOne K (.ref (He.ga K "BadAlphabet")) (.ref (He.ga K "BadTail"))) false
def q_kt_BadAlphabet_BadRank : Fc := fun K => obB (PySem.W.kitOne K (.ref (He.ga K "BadAlphabet")) (.ref (He.ga K "BadRank"))) false
def q_kt_BadAlphabet_NotBits : Fc := fun K => obB (PySem.W.kitOne K (.ref (He.ga K "BadAlphabet")) (.ref (He.ga K "NotBits"))) false
def q_kt_BadAlphabet_BadIndex : Fc := fun K => obB (PySem.W.kitOne K (.ref (He.ga K "BadAlphabet")) (.ref (He.ga K "BadIndex"))) false
def q_kt_BadAlphabet_BadStanding : Fc := fun K => obB (PySem.W.kitOne K (.ref (He.ga K "BadAlphabet")) (.ref (He.ga K "BadStanding"))) false
def q_kt_BadAlphabet_BadRule : Fc := fun K => obB (PySem.W.kitOne K (.ref (He.ga K "BadAlphabet")) (.ref (He.ga K "BadRule"))) false
def q_kt_BadAlphabet_AlphabetsDiffer : Fc := fun K => obB (PySem.W.kitOne K (.ref (He.ga K "BadAlphabet")) (.ref (He.ga K "AlphabetsDiffer"))) false
def q_kt_BadAlphabet_DoesNotComeBack : Fc := fun K => obB (PySem.W.kitOne K (.ref (He.ga K "BadAlphabet")) (.ref (He.ga K "DoesNotComeBack"))) false
def q_kt_BadAlphabet_TooLarge : Fc := fun K => obB (PySem.W.kitOne K (.ref (He.ga K "BadAlphabet")) (.ref (He.ga K "TooLarge"))) false
def q_kt_BadAlphabet_NotWritten : Fc := fun K => obB (PySem.W.kitOne K (.ref (He.ga K "BadAlphabet")) (.ref (He.ga K "NotWritten"))) false
def q_kt_BadAlphabet_NoSuchText : Fc := fun K => obB (PySem.W.kitOne K (.ref (He.ga K "BadAlphabet")) (.ref (He.ga K "NoSuchText"))) false
def q_kt_BadAlphabet_BadName : Fc := fun K => obB (PySem.W.kitOne K (.ref (He.ga K "BadAlphabet")) (.ref (He.ga K "BadName"))) false
def q_kt_BadAlphabet_NameTaken : Fc := fun K => obB (PySem.W.kitOne K (.ref (He.ga K "BadAlphabet")) (.ref (He.ga K "NameTaken"))) false
def q_kt_BadAlphabet_NoName : Fc := fun K => obB (PySem.W.kitOne K (.ref (He.ga K "BadAlphabet")) (.ref (He.ga K "NoName"))) false
def q_kt_BadAlphabet_EmptyRing : Fc := fun K => obB (PySem.W.kitOne K (.ref (He.ga K "BadAlphabet")) (.ref (He.ga K "EmptyRing"))) false
def q_kt_BadAlphabet_NotInLot : Fc := fun K => obB (PySem.W.kitOne K (.ref (He.ga K "BadAlphabet")) (.ref (He.ga K "NotInLot"))) false
def q_kt_BadAlphabet_BadBuild : Fc := fun K => obB (PySem.W.kitOne K (.ref (He.ga K "BadAlphabet")) (.ref (He.ga K "BadBuild"))) false
def q_kt_BadAlphabet_BadGrowth : Fc := fun K => obB (PySem.W.kitOne K (.ref (He.ga K "BadAlphabet")) (.ref (He.ga K "BadGrowth"))) false
def q_kt_BadAlphabet_EmptyText : Fc := fun K => obB (PySem.W.kitOne K (.ref (He.ga K "BadAlphabet")) (.ref (He.ga K "EmptyText"))) false
def q_kt_BadAlphabet_NothingToUndo : Fc := fun K => obB (PySem.W.kitOne K (.ref (He.ga K "BadAlphabet")) (.ref (He.ga K "NothingToUndo"))) false
def q_kt_BadAlphabet_NothingToRedo : Fc := fun K => obB (PySem.W.kitOne K (.ref (He.ga K "BadAlphabet")) (.ref (He.ga K "NothingToRedo"))) false
def q_kt_BadAlphabet_VE : Fc := fun K => obB (PySem.W.kitOne K (.ref (He.ga K "BadAlphabet")) (.type "ValueError")) true
def q_ex_BadAlphabet_BadAlphabet : Fc := fun K => obB (PySem.W.exmOne K (.ref (He.ga K "BadAlphabet")) (.ref (He.ga K "BadAlphabet"))) true
def q_ex_BadAlphabet_BadLetter : Fc := fun K => obB (PySem.W.exmOne K (.ref (He.ga K "BadAlphabet")) (.ref (He.ga K "BadLetter"))) false
def q_ty_BadLetter : Fc := fun K => tyB (PySem.W.typeIn K (.ref (He.ga K "BadLetter"))) "type"
def q_kcE_BadLetter : Fc := fun K => PySem.W.keepIn K (.ref (He.ga K "BadLetter"))
def q_gaE_BadLetter : Fc := fun K => He.eqO (PySem.W.findIn K (.ref (He.ga K "BadLetter")) "__getattribute__") (some (some (.builtin "BaseException.__getattribute__")))
def q_ggE_BadLetter : Fc := fun K => He.eqO (PySem.W.findIn K (.ref (He.ga K "BadLetter")) "__getattr__") (some none)
def q_sbE_BadLetter : Fc := fun K => obB (PySem.W.subIn K (.ref (He.ga K "BadLetter")) (.type "BaseException")) true
def q_hdE_BadLetter : Fc := fun K => PySem.W.hasDictIn K (He.ga K "BadLetter")
def q_caE_BadLetter : Fc := fun K => He.eqO (PySem.W.findIn K (.ref (He.ga K "BadLetter")) "__class__") (some (some (.builtin "object.__class__")))
def q_mrE_BadLetter : Fc := fun K => obB (PySem.W.mroIn K (He.ga K "BadLetter") (.type "object")) true
def q_xL_BadLetter : Fc := fun K => xcB K (He.ga K "BadLetter")
def q_saE_BadLetter : Fc := fun K => He.eqO (PySem.W.findIn K (.ref (He.ga K "BadLetter")) "__setattr__") (some (some (.builtin "object.__setattr__")))
def q_iE_BadLetter : Fc := fun K => He.eqO (PySem.W.findIn K (.ref (He.ga K "BadLetter")) "__init__") (some (some (.ref (He.fAd K ("BadLetter", some "__init__")))))
def q_tiE_BadLetter : Fc := fun K => tyB (PySem.W.typeIn K (.ref (He.fAd K ("BadLetter", some "__init__")))) "function"
def q_kpE_BadLetter : Fc := fun K => PySem.W.keepIn K (.ref (He.fAd K ("BadLetter", some "__init__")))
def q_nfE_BadLetter_index : Fc := fun K => He.eqO (PySem.W.findIn K (.ref (He.ga K "BadLetter")) "index") (some none)
def q_kt_BadLetter_PressError : Fc := fun K => obB (PySem.W.kitOne K (.ref (He.ga K "BadLetter")) (.ref (He.ga K "PressError"))) true
def q_kt_BadLetter_BadAlphabet : Fc := fun K => obB (PySem.W.kitOne K (.ref (He.ga K "BadLetter")) (.ref (He.ga K "BadAlphabet"))) false
def q_kt_BadLetter_BadLetter : Fc := fun K => obB (PySem.W.kitOne K (.ref (He.ga K "BadLetter")) (.ref (He.ga K "BadLetter"))) true
def q_kt_BadLetter_BadRow : Fc := fun K => obB (PySem.W.kitOne K (.ref (He.ga K "BadLetter")) (.ref (He.ga K "BadRow"))) false
def q_kt_BadLetter_BadTail : Fc := fun K => obB (PySem.W.kitOne K (.ref (He.ga K "BadLetter")) (.ref (He.ga K "BadTail"))) false
def q_kt_BadLetter_BadRank : Fc := fun K => obB (PySem.W.kitOne K (.ref (He.ga K "BadLetter")) (.ref (He.ga K "BadRank"))) false
def q_kt_BadLetter_NotBits : Fc := fun K => obB (PySem.W.kitOne K (.ref (He.ga K "BadLetter")) (.ref (He.ga K "NotBits"))) false
def q_kt_BadLetter_BadIndex : Fc := fun K => obB (PySem.W.kitOne K (.ref (He.ga K "BadLetter")) (.ref (He.ga K "BadIndex"))) false
def q_kt_BadLetter_BadStanding : Fc := fun K => obB (PySem.W.kitOne K (.ref (He.ga K "BadLetter")) (.ref (He.ga K "BadStanding"))) false
def q_kt_BadLetter_BadRule : Fc := fun K => obB (PySem.W.kitOne K (.ref (He.ga K "BadLetter")) (.ref (He.ga K "BadRule"))) false
def q_kt_BadLetter_AlphabetsDiffer : Fc := fun K => obB (PySem.W.kitOne K (.ref (He.ga K "BadLetter")) (.ref (He.ga K "AlphabetsDiffer"))) false
def q_kt_BadLetter_DoesNotComeBack : Fc := fun K => obB (PySem.W.kitOne K (.ref (He.ga K "BadLetter")) (.ref (He.ga K "DoesNotComeBack"))) false
def q_kt_BadLetter_TooLarge : Fc := fun K => obB (PySem.W.kitOne K (.ref (He.ga K "BadLetter")) (.ref (He.ga K "TooLarge"))) false
def q_kt_BadLetter_NotWritten : Fc := fun K => obB (PySem.W.kitOne K (.ref (He.ga K "BadLetter")) (.ref (He.ga K "NotWritten"))) false
def q_kt_BadLetter_NoSuchText : Fc := fun K => obB (PySem.W.kitOne K (.ref (He.ga K "BadLetter")) (.ref (He.ga K "NoSuchText"))) false
def q_kt_BadLetter_BadName : Fc := fun K => obB (PySem.W.kitOne K (.ref (He.ga K "BadLetter")) (.ref (He.ga K "BadName"))) false
def qs_2 : List Fc := [q_kt_BadAlphabet_BadAlphabet, q_kt_BadAlphabet_BadLetter, q_kt_BadAlphabet_BadRow, q_kt_BadAlphabet_BadTail, q_kt_BadAlphabet_BadRank, q_kt_BadAlphabet_NotBits, q_kt_BadAlphabet_BadIndex, q_kt_BadAlphabet_BadStanding, q_kt_BadAlphabet_BadRule, q_kt_BadAlphabet_AlphabetsDiffer, q_kt_BadAlphabet_DoesNotComeBack, q_kt_BadAlphabet_TooLarge, q_kt_BadAlphabet_NotWritten, q_kt_BadAlphabet_NoSuchText, q_kt_BadAlphabet_BadName, q_kt_BadAlphabet_NameTaken, q_kt_BadAlphabet_NoName, q_kt_BadAlphabet_EmptyRing, q_kt_BadAlphabet_NotInLot, q_kt_BadAlphabet_BadBuild, q_kt_BadAlphabet_BadGrowth, q_kt_BadAlphabet_EmptyText, q_kt_BadAlphabet_NothingToUndo, q_kt_BadAlphabet_NothingToRedo, q_kt_BadAlphabet_VE, q_ex_BadAlphabet_BadAlphabet, q_ex_BadAlphabet_BadLetter, q_ty_BadLetter, q_kcE_BadLetter, q_gaE_BadLetter, q_ggE_BadLetter, q_sbE_BadLetter, q_hdE_BadLetter, q_caE_BadLetter, q_mrE_BadLetter, q_xL_BadLetter, q_saE_BadLetter, q_iE_BadLetter, q_tiE_BadLetter, q_kpE_BadLetter, q_nfE_BadLetter_index, q_kt_BadLetter_PressError, q_kt_BadLetter_BadAlphabet, q_kt_BadLetter_BadLetter, q_kt_BadLetter_BadRow, q_kt_BadLetter_BadTail, q_kt_BadLetter_BadRank, q_kt_BadLetter_NotBits, q_kt_BadLetter_BadIndex, q_kt_BadLetter_BadStanding, q_kt_BadLetter_BadRule, q_kt_BadLetter_AlphabetsDiffer, q_kt_BadLetter_DoesNotComeBack, q_kt_BadLetter_TooLarge, q_kt_BadLetter_NotWritten, q_kt_BadLetter_NoSuchText, q_kt_BadLetter_BadName]
def q_kt_BadLetter_NameTaken : Fc := fun K => obB (PySem.W.kitOne K (.ref (He.ga K "BadLetter")) (.ref (He.ga K "NameTaken"))) false
def q_kt_BadLetter_NoName : Fc := fun K => obB (PySem.W.kitOne K (.ref (He.ga K "BadLetter")) (.ref (He.ga K "NoName"))) false
def q_kt_BadLetter_EmptyRing : Fc := fun K => obB (PySem.W.kitOne K (.ref (He.ga K "BadLetter")) (.ref (He.ga K "EmptyRing"))) false
def q_kt_BadLetter_NotInLot : Fc := fun K => obB (PySem.W.kitOne K (.ref (He.ga K "BadLetter")) (.ref (He.ga K "NotInLot"))) false
def q_kt_BadLetter_BadBuild : Fc := fun K => obB (PySem.W.kitOne K (.ref (He.ga K "BadLetter")) (.ref (He.ga K "BadBuild"))) false
def q_kt_BadLetter_BadGrowth : Fc := fun K => obB (PySem.W.kitOne K (.ref (He.ga K "BadLetter")) (.ref (He.ga K "BadGrowth"))) false
def q_kt_BadLetter_EmptyText : Fc := fun K => obB (PySem.W.kitOne K (.ref (He.ga K "BadLetter")) (.ref (He.ga K "EmptyText"))) false
def q_kt_BadLetter_NothingToUndo : Fc := fun K => obB (PySem.W.kitOne K (.ref (He.ga K "BadLetter")) (.ref (He.ga K "NothingToUndo"))) false
def q_kt_BadLetter_NothingToRedo : Fc := fun K => obB (PySem.W.kitOne K (.ref (He.ga K "BadLetter")) (.ref (He.ga K "NothingToRedo"))) false
def q_kt_BadLetter_VE : Fc := fun K => obB (PySem.W.kitOne K (.ref (He.ga K "BadLetter")) (.type "ValueError")) true
def q_ex_BadLetter_BadAlphabet : Fc := fun K => obB (PySem.W.exmOne K (.ref (He.ga K "BadLetter")) (.ref (He.ga K "BadAlphabet"))) false
def q_ex_BadLetter_BadLetter : Fc := fun K => obB (PySem.W.exmOne K (.ref (He.ga K "BadLetter")) (.ref (He.ga K "BadLetter"))) true
def q_aC_Cut : Fc := fun K => He.eqO (PySem.W.nsIn K mainGlobals "Cut") (some (some (.ref (He.ga K "Cut"))))
def q_pg_Cut : Fc := fun K => PySem.W.plainGet K (He.ga K "Cut") Str.empty
def q_hd_Cut : Fc := fun K => PySem.W.hasDictIn K (He.ga K "Cut")
def q_po_Cut : Fc := fun K => PySem.W.plainOver K (He.ga K "Cut")
def q_sa_Cut : Fc := fun K => He.eqO (PySem.W.findIn K (.ref (He.ga K "Cut")) "__setattr__") (some (some (.builtin "object.__setattr__")))
def q_mk_Cut : Fc := fun K => PySem.W.makesIn K (He.ga K "Cut")
def q_kc_Cut : Fc := fun K => PySem.W.keepIn K (.ref (He.ga K "Cut"))
def q_n_Cut_alphabet : Fc := fun K => He.eqO (PySem.W.findIn K (.ref (He.ga K "Cut")) "alphabet") (some none)
def q_n_Cut_rows : Fc := fun K => He.eqO (PySem.W.findIn K (.ref (He.ga K "Cut")) "rows") (some none)
def q_n_Cut_tail : Fc := fun K => He.eqO (PySem.W.findIn K (.ref (He.ga K "Cut")) "tail") (some none)
def q_n_Cut_pieces : Fc := fun K => He.eqO (PySem.W.findIn K (.ref (He.ga K "Cut")) "pieces") (some none)
def q_n_Cut_many : Fc := fun K => He.eqO (PySem.W.findIn K (.ref (He.ga K "Cut")) "many") (some none)
def q_n_Cut_text : Fc := fun K => He.eqO (PySem.W.findIn K (.ref (He.ga K "Cut")) "text") (some none)
def q_n_Cut_starts : Fc := fun K => He.eqO (PySem.W.findIn K (.ref (He.ga K "Cut")) "starts") (some none)
def q_hcQ_Cut : Fc := fun K => He.eqO (PySem.W.findIn K (.ref (He.ga K "Cut")) "__class__") (some (some (.builtin "object.__class__")))
def q_moQ_Cut : Fc := fun K => obB (PySem.W.mroIn K (He.ga K "Cut") (.type "object")) true
def q_kkQ_Cut : Fc := fun K => obB (PySem.W.kitOne K (.ref (He.ga K "Cut")) (.ref (He.ga K "Cut"))) true
def q_ksQ_Cut : Fc := fun K => obB (PySem.W.kitOne K (.type "str") (.ref (He.ga K "Cut"))) false
def q_a36 : Fc := fun K => He.eqO (PySem.W.findIn K (.ref (He.ga K "Cut")) "__init__") (some (some (.ref (He.fAd K ("Cut", some "__init__")))))
def q_i36 : Fc := fun K => PySem.W.isFn K (.ref (He.fAd K ("Cut", some "__init__")))
def q_k36 : Fc := fun K => PySem.W.keepIn K (.ref (He.fAd K ("Cut", some "__init__")))
def q_a37 : Fc := fun K => He.eqO (PySem.W.findIn K (.ref (He.ga K "Cut")) "__eq__") (some (some (.ref (He.fAd K ("Cut", some "__eq__")))))
def q_i37 : Fc := fun K => PySem.W.isFn K (.ref (He.fAd K ("Cut", some "__eq__")))
def q_k37 : Fc := fun K => PySem.W.keepIn K (.ref (He.fAd K ("Cut", some "__eq__")))
def q_z_ValueError : Fc := fun K => He.eqO (PySem.W.nsIn K mainGlobals "ValueError") (some none)
def q_z_all : Fc := fun K => He.eqO (PySem.W.nsIn K mainGlobals "all") (some none)
def q_z_bool : Fc := fun K => He.eqO (PySem.W.nsIn K mainGlobals "bool") (some none)
def q_z_enumerate : Fc := fun K => He.eqO (PySem.W.nsIn K mainGlobals "enumerate") (some none)
def q_z_int : Fc := fun K => He.eqO (PySem.W.nsIn K mainGlobals "int") (some none)
def q_z_isinstance : Fc := fun K => He.eqO (PySem.W.nsIn K mainGlobals "isinstance") (some none)
def q_z_len : Fc := fun K => He.eqO (PySem.W.nsIn K mainGlobals "len") (some none)
def q_z_list : Fc := fun K => He.eqO (PySem.W.nsIn K mainGlobals "list") (some none)
def q_z_max : Fc := fun K => He.eqO (PySem.W.nsIn K mainGlobals "max") (some none)
def q_z_min : Fc := fun K => He.eqO (PySem.W.nsIn K mainGlobals "min") (some none)
def q_z_range : Fc := fun K => He.eqO (PySem.W.nsIn K mainGlobals "range") (some none)
def q_z_repr : Fc := fun K => He.eqO (PySem.W.nsIn K mainGlobals "repr") (some none)
def q_z_sorted : Fc := fun K => He.eqO (PySem.W.nsIn K mainGlobals "sorted") (some none)
def q_z_str : Fc := fun K => He.eqO (PySem.W.nsIn K mainGlobals "str") (some none)
def q_z_tuple : Fc := fun K => He.eqO (PySem.W.nsIn K mainGlobals "tuple") (some none)
def q_z_zip : Fc := fun K => He.eqO (PySem.W.nsIn K mainGlobals "zip") (some none)
def q_g_LETTERS : Fc := fun K => strB K "LETTERS" (Str.ofString "0123456789abcdefghijklmnopqrstuvwxyz")
def q_g_MOST_LETTERS : Fc := fun K => intB K "MOST_LETTERS" 6
def qs_3 : List Fc := [q_kt_BadLetter_NameTaken, q_kt_BadLetter_NoName, q_kt_BadLetter_EmptyRing, q_kt_BadLetter_NotInLot, q_kt_BadLetter_BadBuild, q_kt_BadLetter_BadGrowth, q_kt_BadLetter_EmptyText, q_kt_BadLetter_NothingToUndo, q_kt_BadLetter_NothingToRedo, q_kt_BadLetter_VE, q_ex_BadLetter_BadAlphabet, q_ex_BadLetter_BadLetter, q_aC_Cut, q_pg_Cut, q_hd_Cut, q_po_Cut, q_sa_Cut, q_mk_Cut, q_kc_Cut, q_n_Cut_alphabet, q_n_Cut_rows, q_n_Cut_tail, q_n_Cut_pieces, q_n_Cut_many, q_n_Cut_text, q_n_Cut_starts, q_hcQ_Cut, q_moQ_Cut, q_kkQ_Cut, q_ksQ_Cut, q_a36, q_i36, q_k36, q_a37, q_i37, q_k37, q_z_ValueError, q_z_all, q_z_bool, q_z_enumerate, q_z_int, q_z_isinstance, q_z_len, q_z_list, q_z_max, q_z_min, q_z_range, q_z_repr, q_z_sorted, q_z_str, q_z_tuple, q_z_zip, q_g_LETTERS, q_g_MOST_LETTERS]
def qs : List (List Fc) := [qs_0, qs_1, qs_2, qs_3]
def fd_0 : He.FnD := ⟨("is_alphabet", none), "is_alphabet", "is_alphabet", defArgs s_is_alphabet, defBody s_is_alphabet, defScope s_is_alphabet⟩
def fd_1 : He.FnD := ⟨("is_letter", none), "is_letter", "is_letter", defArgs s_is_letter, defBody s_is_letter, defScope s_is_letter⟩
def fd_2 : He.FnD := ⟨("check_alphabet", none), "check_alphabet", "check_alphabet", defArgs s_check_alphabet, defBody s_check_alphabet, defScope s_check_alphabet⟩
def fd_3 : He.FnD := ⟨("check_text", none), "check_text", "check_text", defArgs s_check_text, defBody s_check_text, defScope s_check_text⟩
def fd_4 : He.FnD := ⟨("is_whole", none), "is_whole", "is_whole", defArgs s_is_whole, defBody s_is_whole, defScope s_is_whole⟩
def fd_5 : He.FnD := ⟨("is_number_below", none), "is_number_below", "is_number_below", defArgs s_is_number_below, defBody s_is_number_below, defScope s_is_number_below⟩
def fd_6 : He.FnD := ⟨("as_tuples", none), "as_tuples", "as_tuples", defArgs s_as_tuples, defBody s_as_tuples, defScope s_as_tuples⟩
def fd_7 : He.FnD := ⟨("check_rows", none), "check_rows", "check_rows", defArgs s_check_rows, defBody s_check_rows, defScope s_check_rows⟩
def fd_8 : He.FnD := ⟨("pieces_of", none), "pieces_of", "pieces_of", defArgs s_pieces_of, defBody s_pieces_of, defScope s_pieces_of⟩
def fd_9 : He.FnD := ⟨("starts_of", none), "starts_of", "starts_of", defArgs s_starts_of, defBody s_starts_of, defScope s_starts_of⟩
def fd_10 : He.FnD := ⟨("cut_of", none), "cut_of", "cut_of", defArgs s_cut_of, defBody s_cut_of, defScope s_cut_of⟩
def fd_11 : He.FnD := ⟨("_law_whole", none), "_law_whole", "_law_whole", defArgs s__law_whole, defBody s__law_whole, defScope s__law_whole⟩
def fd_12 : He.FnD := ⟨("_law_cell", none), "_law_cell", "_law_cell", defArgs s__law_cell, defBody s__law_cell, defScope s__law_cell⟩
def fd_13 : He.FnD := ⟨("_law_digits", none), "_law_digits", "_law_digits", defArgs s__law_digits, defBody s__law_digits, defScope s__law_digits⟩
def fd_14 : He.FnD := ⟨("_law_signs", none), "_law_signs", "_law_signs", defArgs s__law_signs, defBody s__law_signs, defScope s__law_signs⟩
def fd_15 : He.FnD := ⟨("_law_plain_word", none), "_law_plain_word", "_law_plain_word", defArgs s__law_plain_word, defBody s__law_plain_word, defScope s__law_plain_word⟩
def fd_16 : He.FnD := ⟨("_law_counting_word", none), "_law_counting_word", "_law_counting_word", defArgs s__law_counting_word, defBody s__law_counting_word, defScope s__law_counting_word⟩
def fd_17 : He.FnD := ⟨("_law_short_word", none), "_law_short_word", "_law_short_word", defArgs s__law_short_word, defBody s__law_short_word, defScope s__law_short_word⟩
def fd_18 : He.FnD := ⟨("_law_ruled_word", none), "_law_ruled_word", "_law_ruled_word", defArgs s__law_ruled_word, defBody s__law_ruled_word, defScope s__law_ruled_word⟩
def fd_19 : He.FnD := ⟨("_law_free_word", none), "_law_free_word", "_law_free_word", defArgs s__law_free_word, defBody s__law_free_word, defScope s__law_free_word⟩
def fd_20 : He.FnD := ⟨("_law_characters", none), "_law_characters", "_law_characters", defArgs s__law_characters, defBody s__law_characters, defScope s__law_characters⟩
def fd_21 : He.FnD := ⟨("_law_is_alphabet", none), "_law_is_alphabet", "_law_is_alphabet", defArgs s__law_is_alphabet, defBody s__law_is_alphabet, defScope s__law_is_alphabet⟩
def fd_22 : He.FnD := ⟨("_law_stray", none), "_law_stray", "_law_stray", defArgs s__law_stray, defBody s__law_stray, defScope s__law_stray⟩
def fd_23 : He.FnD := ⟨("_law_spoilt_word", none), "_law_spoilt_word", "_law_spoilt_word", defArgs s__law_spoilt_word, defBody s__law_spoilt_word, defScope s__law_spoilt_word⟩
def fd_24 : He.FnD := ⟨("_law_odd_signs", none), "_law_odd_signs", "_law_odd_signs", defArgs s__law_odd_signs, defBody s__law_odd_signs, defScope s__law_odd_signs⟩
def fd_25 : He.FnD := ⟨("_law_cut", none), "_law_cut", "_law_cut", defArgs s__law_cut, defBody s__law_cut, defScope s__law_cut⟩
def fd_26 : He.FnD := ⟨("_law_near_word", none), "_law_near_word", "_law_near_word", defArgs s__law_near_word, defBody s__law_near_word, defScope s__law_near_word⟩
def fd_27 : He.FnD := ⟨("_law_other_signs", none), "_law_other_signs", "_law_other_signs", defArgs s__law_other_signs, defBody s__law_other_signs, defScope s__law_other_signs⟩
def fd_28 : He.FnD := ⟨("_law_says", none), "_law_says", "_law_says", defArgs s__law_says, defBody s__law_says, defScope s__law_says⟩
def fd_29 : He.FnD := ⟨("_law_kinds", none), "_law_kinds", "_law_kinds", defArgs s__law_kinds, defBody s__law_kinds, defScope s__law_kinds⟩
def fd_30 : He.FnD := ⟨("_law_is_cut", none), "_law_is_cut", "_law_is_cut", defArgs s__law_is_cut, defBody s__law_is_cut, defScope s__law_is_cut⟩
def fd_31 : He.FnD := ⟨("_law_shown", none), "_law_shown", "_law_shown", defArgs s__law_shown, defBody s__law_shown, defScope s__law_shown⟩
def fd_32 : He.FnD := ⟨("_law_kin", none), "_law_kin", "_law_kin", defArgs s__law_kin, defBody s__law_kin, defScope s__law_kin⟩
def fd_33 : He.FnD := ⟨("_law_door", none), "_law_door", "_law_door", defArgs s__law_door, defBody s__law_door, defScope s__law_door⟩
def fd_34 : He.FnD := ⟨("_law_equality", none), "_law_equality", "_law_equality", defArgs s__law_equality, defBody s__law_equality, defScope s__law_equality⟩
def fd_35 : He.FnD := ⟨("law", none), "law", "law", defArgs s_law, defBody s_law, defScope s_law⟩
def fd_36 : He.FnD := ⟨("Cut", some "__init__"), "__init__", "Cut.__init__", defArgs s_Cut___init__, defBody s_Cut___init__, defScope s_Cut___init__⟩
def fd_37 : He.FnD := ⟨("Cut", some "__eq__"), "__eq__", "Cut.__eq__", defArgs s_Cut___eq__, defBody s_Cut___eq__, defScope s_Cut___eq__⟩
def fd_38 : He.FnD := ⟨("BadAlphabet", some "__init__"), "__init__", "BadAlphabet.__init__", defArgs s_BadAlphabet___init__, defBody s_BadAlphabet___init__, defScope s_BadAlphabet___init__⟩
def fd_39 : He.FnD := ⟨("BadLetter", some "__init__"), "__init__", "BadLetter.__init__", defArgs s_BadLetter___init__, defBody s_BadLetter___init__, defScope s_BadLetter___init__⟩
def fns : List He.FnD := [fd_0, fd_1, fd_2, fd_3, fd_4, fd_5, fd_6, fd_7, fd_8, fd_9, fd_10, fd_11, fd_12, fd_13, fd_14, fd_15, fd_16, fd_17, fd_18, fd_19, fd_20, fd_21, fd_22, fd_23, fd_24, fd_25, fd_26, fd_27, fd_28, fd_29, fd_30, fd_31, fd_32, fd_33, fd_34, fd_35, fd_36, fd_37, fd_38, fd_39]
def nm_0 : List PySem.Str := ["__name__", "PressError", "BadAlphabet", "BadLetter", "BadRow", "BadTail", "BadRank", "NotBits", "BadIndex", "BadStanding", "BadRule", "AlphabetsDiffer", "DoesNotComeBack", "TooLarge", "NotWritten", "NoSuchText", "BadName", "NameTaken", "NoName", "EmptyRing", "NotInLot", "BadBuild", "BadGrowth", "EmptyText", "NothingToUndo", "NothingToRedo", "LETTERS", "MOST_LETTERS", "is_alphabet", "is_letter"]
def nm_1 : List PySem.Str := ["check_alphabet", "check_text", "is_whole", "is_number_below", "as_tuples", "Cut", "check_rows", "pieces_of", "starts_of", "cut_of", "_law_whole", "_law_cell", "_law_digits", "_law_signs", "_law_plain_word", "_law_counting_word", "_law_short_word", "_law_ruled_word", "_law_free_word", "_law_characters", "_law_is_alphabet", "_law_stray", "_law_spoilt_word", "_law_odd_signs", "_law_cut", "_law_near_word", "_law_other_signs", "_law_says", "_law_kinds", "_law_is_cut"]
def nm_2 : List PySem.Str := ["_law_shown", "_law_kin", "_law_door", "_law_equality"]
def nms : List PySem.Str := nm_0 ++ nm_1 ++ nm_2
abbrev RR : PySem.W.OpenRow := PySem.W.OpenLaw.row PySem.Challenge.rw_outpressed_k00_cut_whole
abbrev qv : Program := PySem.W.view RR.prog [68]
abbrev hk : PySem.W.Hook := hookH 4 qs fns
def obT (s : PySem.W.SharedT) : He.Al := obsHG 4 qs fns (HandSHeadRun.getT s)
theorem obT_eq (s : PySem.W.SharedT) : obT s = hk.obs s.abs := obsHG_eq (HandSHeadRun.getT_eq s)
section
open PySem.W HandSHeadRun
theorem pc_0 (w : World) : Pc RR 20000 w (fun s => (looksF RR.prog (boot_heap w.params) s.abs, seenQ qv nms (importedModules RR.prog.main.body) (fun s => xlAt qv [] s && recOk RR.toRowW.records s) s.abs)) (true, openGood qv nms) := by
  intro os
  kernel_rfl
theorem pq_0 (w : World) : Pc RR 20000 w (fun s => qs_0.all fun f => f (KofS 4 s)) true := by
  intro os
  kernel_rfl
theorem pq_1 (w : World) : Pc RR 20000 w (fun s => qs_1.all fun f => f (KofS 4 s)) true := by
  intro os
  kernel_rfl
theorem pq_2 (w : World) : Pc RR 20000 w (fun s => qs_2.all fun f => f (KofS 4 s)) true := by
  intro os
  kernel_rfl
theorem pq_3 (w : World) : Pc RR 20000 w (fun s => qs_3.all fun f => f (KofS 4 s)) true := by
  intro os
  kernel_rfl
theorem pc_n (w : World) : Pc RR 20000 w (fun s => obsN fns (KofS 4 s)) (He.valE fns) := by
  intro os
  kernel_rfl
theorem runs (w : World) : HandSHeadRun.RunEq RR qv hk obT 20000 nms w := run_join (pc_0 w) (fun l hl => by
  simp only [qs, List.mem_cons, List.not_mem_nil, or_false] at hl
  rcases hl with rfl | rfl | rfl | rfl
  · exact pq_0 w
  · exact pq_1 w
  · exact pq_2 w
  · exact pq_3 w) (pc_n w)
end
theorem facts {l : PySem.W.OpenLaw} {w : World} {K : PySem.W.Frag} {h : Heap} {mg : Str → Option Value} {fa : Addr} (X : K.In h) (c : SaysH qs fns K) (G : h.Ns mainGlobals mg) (hfa : mg "law" = some (.ref fa)) : ∃ fd : FuncData, (∀ (s : Shared) (v : Value), BindsTo s fd ⟨[v], []⟩ [("script", v)]) ∧ ∀ base : Heap, K.In base → base.Ns mainGlobals mg → FnG l.prog w K mg base CX0 9 fa fd ["script"] (spLaw K) := by
  obtain ⟨_, _, _, _, _, _, _, _, _, l0, c0⟩ := c.def_ 0 (d := fd_0) rfl
  obtain ⟨_, _, _, _, _, _, _, _, _, l1, c1⟩ := c.def_ 1 (d := fd_1) rfl
  obtain ⟨_, _, _, _, _, _, _, _, _, l2, c2⟩ := c.def_ 2 (d := fd_2) rfl
  obtain ⟨_, _, _, _, _, _, _, _, _, l3, c3⟩ := c.def_ 3 (d := fd_3) rfl
  obtain ⟨_, _, _, _, _, _, _, _, _, l4, c4⟩ := c.def_ 4 (d := fd_4) rfl
  obtain ⟨_, _, _, _, _, _, _, _, _, l5, c5⟩ := c.def_ 5 (d := fd_5) rfl
  obtain ⟨_, _, _, _, _, _, _, _, _, l6, c6⟩ := c.def_ 6 (d := fd_6) rfl
  obtain ⟨_, _, _, _, _, _, _, _, _, l7, c7⟩ := c.def_ 7 (d := fd_7) rfl
  obtain ⟨_, _, _, _, _, _, _, _, _, l8, c8⟩ := c.def_ 8 (d := fd_8) rfl
  obtain ⟨_, _, _, _, _, _, _, _, _, l9, c9⟩ := c.def_ 9 (d := fd_9) rfl
  obtain ⟨_, _, _, _, _, _, _, _, _, l10, c10⟩ := c.def_ 10 (d := fd_10) rfl
  obtain ⟨_, _, _, _, _, _, _, _, _, l11, c11⟩ := c.def_ 11 (d := fd_11) rfl
  obtain ⟨_, _, _, _, _, _, _, _, _, l12, c12⟩ := c.def_ 12 (d := fd_12) rfl
  obtain ⟨_, _, _, _, _, _, _, _, _, l13, c13⟩ := c.def_ 13 (d := fd_13) rfl
  obtain ⟨_, _, _, _, _, _, _, _, _, l14, c14⟩ := c.def_ 14 (d := fd_14) rfl
  obtain ⟨_, _, _, _, _, _, _, _, _, l15, c15⟩ := c.def_ 15 (d := fd_15) rfl
  obtain ⟨_, _, _, _, _, _, _, _, _, l16, c16⟩ := c.def_ 16 (d := fd_16) rfl
  obtain ⟨_, _, _, _, _, _, _, _, _, l17, c17⟩ := c.def_ 17 (d := fd_17) rfl
  obtain ⟨_, _, _, _, _, _, _, _, _, l18, c18⟩ := c.def_ 18 (d := fd_18) rfl
  obtain ⟨_, _, _, _, _, _, _, _, _, l19, c19⟩ := c.def_ 19 (d := fd_19) rfl
  obtain ⟨_, _, _, _, _, _, _, _, _, l20, c20⟩ := c.def_ 20 (d := fd_20) rfl
  obtain ⟨_, _, _, _, _, _, _, _, _, l21, c21⟩ := c.def_ 21 (d := fd_21) rfl
  obtain ⟨_, _, _, _, _, _, _, _, _, l22, c22⟩ := c.def_ 22 (d := fd_22) rfl
  obtain ⟨_, _, _, _, _, _, _, _, _, l23, c23⟩ := c.def_ 23 (d := fd_23) rfl
  obtain ⟨_, _, _, _, _, _, _, _, _, l24, c24⟩ := c.def_ 24 (d := fd_24) rfl
  obtain ⟨_, _, _, _, _, _, _, _, _, l25, c25⟩ := c.def_ 25 (d := fd_25) rfl
  obtain ⟨_, _, _, _, _, _, _, _, _, l26, c26⟩ := c.def_ 26 (d := fd_26) rfl
  obtain ⟨_, _, _, _, _, _, _, _, _, l27, c27⟩ := c.def_ 27 (d := fd_27) rfl
  obtain ⟨_, _, _, _, _, _, _, _, _, l28, c28⟩ := c.def_ 28 (d := fd_28) rfl
  obtain ⟨_, _, _, _, _, _, _, _, _, l29, c29⟩ := c.def_ 29 (d := fd_29) rfl
  obtain ⟨_, _, _, _, _, _, _, _, _, l30, c30⟩ := c.def_ 30 (d := fd_30) rfl
  obtain ⟨_, _, _, _, _, _, _, _, _, l31, c31⟩ := c.def_ 31 (d := fd_31) rfl
  obtain ⟨_, _, _, _, _, _, _, _, _, l32, c32⟩ := c.def_ 32 (d := fd_32) rfl
  obtain ⟨_, _, _, _, _, _, _, _, _, l33, c33⟩ := c.def_ 33 (d := fd_33) rfl
  obtain ⟨_, _, _, _, _, _, _, _, _, l34, c34⟩ := c.def_ 34 (d := fd_34) rfl
  obtain ⟨_, _, _, _, _, _, _, _, _, l35, c35⟩ := c.def_ 35 (d := fd_35) rfl
  obtain ⟨_, _, _, _, _, _, _, _, _, l36, c36⟩ := c.def_ 36 (d := fd_36) rfl
  obtain ⟨_, _, _, _, _, _, _, _, _, l37, c37⟩ := c.def_ 37 (d := fd_37) rfl
  obtain ⟨_, _, _, _, _, _, _, _, _, lE_BadAlphabet, ccE_BadAlphabet⟩ := c.def_ 38 (d := fd_38) rfl
  obtain ⟨_, _, _, _, _, _, _, _, _, lE_BadLetter, ccE_BadLetter⟩ := c.def_ 39 (d := fd_39) rfl
  have a0 : PySem.W.nsIn K mainGlobals "is_alphabet" = some (some (.ref (He.fAd K ("is_alphabet", none)))) := He.eqO_ok (c.fact 0 0 (f := q_a0) rfl rfl)
  have k0 : PySem.W.keepIn K (.ref (He.fAd K ("is_alphabet", none))) = true := c.fact 0 1 (f := q_k0) rfl rfl
  have a1 : PySem.W.nsIn K mainGlobals "is_letter" = some (some (.ref (He.fAd K ("is_letter", none)))) := He.eqO_ok (c.fact 0 2 (f := q_a1) rfl rfl)
  have k1 : PySem.W.keepIn K (.ref (He.fAd K ("is_letter", none))) = true := c.fact 0 3 (f := q_k1) rfl rfl
  have a2 : PySem.W.nsIn K mainGlobals "check_alphabet" = some (some (.ref (He.fAd K ("check_alphabet", none)))) := He.eqO_ok (c.fact 0 4 (f := q_a2) rfl rfl)
  have k2 : PySem.W.keepIn K (.ref (He.fAd K ("check_alphabet", none))) = true := c.fact 0 5 (f := q_k2) rfl rfl
  have a3 : PySem.W.nsIn K mainGlobals "check_text" = some (some (.ref (He.fAd K ("check_text", none)))) := He.eqO_ok (c.fact 0 6 (f := q_a3) rfl rfl)
  have k3 : PySem.W.keepIn K (.ref (He.fAd K ("check_text", none))) = true := c.fact 0 7 (f := q_k3) rfl rfl
  have a4 : PySem.W.nsIn K mainGlobals "is_whole" = some (some (.ref (He.fAd K ("is_whole", none)))) := He.eqO_ok (c.fact 0 8 (f := q_a4) rfl rfl)
  have k4 : PySem.W.keepIn K (.ref (He.fAd K ("is_whole", none))) = true := c.fact 0 9 (f := q_k4) rfl rfl
  have a5 : PySem.W.nsIn K mainGlobals "is_number_below" = some (some (.ref (He.fAd K ("is_number_below", none)))) := He.eqO_ok (c.fact 0 10 (f := q_a5) rfl rfl)
  have k5 : PySem.W.keepIn K (.ref (He.fAd K ("is_number_below", none))) = true := c.fact 0 11 (f := q_k5) rfl rfl
  have a6 : PySem.W.nsIn K mainGlobals "as_tuples" = some (some (.ref (He.fAd K ("as_tuples", none)))) := He.eqO_ok (c.fact 0 12 (f := q_a6) rfl rfl)
  have k6 : PySem.W.keepIn K (.ref (He.fAd K ("as_tuples", none))) = true := c.fact 0 13 (f := q_k6) rfl rfl
  have a7 : PySem.W.nsIn K mainGlobals "check_rows" = some (some (.ref (He.fAd K ("check_rows", none)))) := He.eqO_ok (c.fact 0 14 (f := q_a7) rfl rfl)
  have k7 : PySem.W.keepIn K (.ref (He.fAd K ("check_rows", none))) = true := c.fact 0 15 (f := q_k7) rfl rfl
  have a8 : PySem.W.nsIn K mainGlobals "pieces_of" = some (some (.ref (He.fAd K ("pieces_of", none)))) := He.eqO_ok (c.fact 0 16 (f := q_a8) rfl rfl)
  have k8 : PySem.W.keepIn K (.ref (He.fAd K ("pieces_of", none))) = true := c.fact 0 17 (f := q_k8) rfl rfl
  have a9 : PySem.W.nsIn K mainGlobals "starts_of" = some (some (.ref (He.fAd K ("starts_of", none)))) := He.eqO_ok (c.fact 0 18 (f := q_a9) rfl rfl)
  have k9 : PySem.W.keepIn K (.ref (He.fAd K ("starts_of", none))) = true := c.fact 0 19 (f := q_k9) rfl rfl
  have a10 : PySem.W.nsIn K mainGlobals "cut_of" = some (some (.ref (He.fAd K ("cut_of", none)))) := He.eqO_ok (c.fact 0 20 (f := q_a10) rfl rfl)
  have k10 : PySem.W.keepIn K (.ref (He.fAd K ("cut_of", none))) = true := c.fact 0 21 (f := q_k10) rfl rfl
  have a11 : PySem.W.nsIn K mainGlobals "_law_whole" = some (some (.ref (He.fAd K ("_law_whole", none)))) := He.eqO_ok (c.fact 0 22 (f := q_a11) rfl rfl)
  have k11 : PySem.W.keepIn K (.ref (He.fAd K ("_law_whole", none))) = true := c.fact 0 23 (f := q_k11) rfl rfl
  have a12 : PySem.W.nsIn K mainGlobals "_law_cell" = some (some (.ref (He.fAd K ("_law_cell", none)))) := He.eqO_ok (c.fact 0 24 (f := q_a12) rfl rfl)
  have k12 : PySem.W.keepIn K (.ref (He.fAd K ("_law_cell", none))) = true := c.fact 0 25 (f := q_k12) rfl rfl
  have a13 : PySem.W.nsIn K mainGlobals "_law_digits" = some (some (.ref (He.fAd K ("_law_digits", none)))) := He.eqO_ok (c.fact 0 26 (f := q_a13) rfl rfl)
  have k13 : PySem.W.keepIn K (.ref (He.fAd K ("_law_digits", none))) = true := c.fact 0 27 (f := q_k13) rfl rfl
  have a14 : PySem.W.nsIn K mainGlobals "_law_signs" = some (some (.ref (He.fAd K ("_law_signs", none)))) := He.eqO_ok (c.fact 0 28 (f := q_a14) rfl rfl)
  have k14 : PySem.W.keepIn K (.ref (He.fAd K ("_law_signs", none))) = true := c.fact 0 29 (f := q_k14) rfl rfl
  have a15 : PySem.W.nsIn K mainGlobals "_law_plain_word" = some (some (.ref (He.fAd K ("_law_plain_word", none)))) := He.eqO_ok (c.fact 0 30 (f := q_a15) rfl rfl)
  have k15 : PySem.W.keepIn K (.ref (He.fAd K ("_law_plain_word", none))) = true := c.fact 0 31 (f := q_k15) rfl rfl
  have a16 : PySem.W.nsIn K mainGlobals "_law_counting_word" = some (some (.ref (He.fAd K ("_law_counting_word", none)))) := He.eqO_ok (c.fact 0 32 (f := q_a16) rfl rfl)
  have k16 : PySem.W.keepIn K (.ref (He.fAd K ("_law_counting_word", none))) = true := c.fact 0 33 (f := q_k16) rfl rfl
  have a17 : PySem.W.nsIn K mainGlobals "_law_short_word" = some (some (.ref (He.fAd K ("_law_short_word", none)))) := He.eqO_ok (c.fact 0 34 (f := q_a17) rfl rfl)
  have k17 : PySem.W.keepIn K (.ref (He.fAd K ("_law_short_word", none))) = true := c.fact 0 35 (f := q_k17) rfl rfl
  have a18 : PySem.W.nsIn K mainGlobals "_law_ruled_word" = some (some (.ref (He.fAd K ("_law_ruled_word", none)))) := He.eqO_ok (c.fact 0 36 (f := q_a18) rfl rfl)
  have k18 : PySem.W.keepIn K (.ref (He.fAd K ("_law_ruled_word", none))) = true := c.fact 0 37 (f := q_k18) rfl rfl
  have a19 : PySem.W.nsIn K mainGlobals "_law_free_word" = some (some (.ref (He.fAd K ("_law_free_word", none)))) := He.eqO_ok (c.fact 0 38 (f := q_a19) rfl rfl)
  have k19 : PySem.W.keepIn K (.ref (He.fAd K ("_law_free_word", none))) = true := c.fact 0 39 (f := q_k19) rfl rfl
  have a20 : PySem.W.nsIn K mainGlobals "_law_characters" = some (some (.ref (He.fAd K ("_law_characters", none)))) := He.eqO_ok (c.fact 0 40 (f := q_a20) rfl rfl)
  have k20 : PySem.W.keepIn K (.ref (He.fAd K ("_law_characters", none))) = true := c.fact 0 41 (f := q_k20) rfl rfl
  have a21 : PySem.W.nsIn K mainGlobals "_law_is_alphabet" = some (some (.ref (He.fAd K ("_law_is_alphabet", none)))) := He.eqO_ok (c.fact 0 42 (f := q_a21) rfl rfl)
  have k21 : PySem.W.keepIn K (.ref (He.fAd K ("_law_is_alphabet", none))) = true := c.fact 0 43 (f := q_k21) rfl rfl
  have a22 : PySem.W.nsIn K mainGlobals "_law_stray" = some (some (.ref (He.fAd K ("_law_stray", none)))) := He.eqO_ok (c.fact 0 44 (f := q_a22) rfl rfl)
  have k22 : PySem.W.keepIn K (.ref (He.fAd K ("_law_stray", none))) = true := c.fact 0 45 (f := q_k22) rfl rfl
  have a23 : PySem.W.nsIn K mainGlobals "_law_spoilt_word" = some (some (.ref (He.fAd K ("_law_spoilt_word", none)))) := He.eqO_ok (c.fact 0 46 (f := q_a23) rfl rfl)
  have k23 : PySem.W.keepIn K (.ref (He.fAd K ("_law_spoilt_word", none))) = true := c.fact 0 47 (f := q_k23) rfl rfl
  have a24 : PySem.W.nsIn K mainGlobals "_law_odd_signs" = some (some (.ref (He.fAd K ("_law_odd_signs", none)))) := He.eqO_ok (c.fact 0 48 (f := q_a24) rfl rfl)
  have k24 : PySem.W.keepIn K (.ref (He.fAd K ("_law_odd_signs", none))) = true := c.fact 0 49 (f := q_k24) rfl rfl
  have a25 : PySem.W.nsIn K mainGlobals "_law_cut" = some (some (.ref (He.fAd K ("_law_cut", none)))) := He.eqO_ok (c.fact 0 50 (f := q_a25) rfl rfl)
  have k25 : PySem.W.keepIn K (.ref (He.fAd K ("_law_cut", none))) = true := c.fact 0 51 (f := q_k25) rfl rfl
  have a26 : PySem.W.nsIn K mainGlobals "_law_near_word" = some (some (.ref (He.fAd K ("_law_near_word", none)))) := He.eqO_ok (c.fact 0 52 (f := q_a26) rfl rfl)
  have k26 : PySem.W.keepIn K (.ref (He.fAd K ("_law_near_word", none))) = true := c.fact 0 53 (f := q_k26) rfl rfl
  have a27 : PySem.W.nsIn K mainGlobals "_law_other_signs" = some (some (.ref (He.fAd K ("_law_other_signs", none)))) := He.eqO_ok (c.fact 0 54 (f := q_a27) rfl rfl)
  have k27 : PySem.W.keepIn K (.ref (He.fAd K ("_law_other_signs", none))) = true := c.fact 0 55 (f := q_k27) rfl rfl
  have a28 : PySem.W.nsIn K mainGlobals "_law_says" = some (some (.ref (He.fAd K ("_law_says", none)))) := He.eqO_ok (c.fact 0 56 (f := q_a28) rfl rfl)
  have k28 : PySem.W.keepIn K (.ref (He.fAd K ("_law_says", none))) = true := c.fact 1 0 (f := q_k28) rfl rfl
  have a29 : PySem.W.nsIn K mainGlobals "_law_kinds" = some (some (.ref (He.fAd K ("_law_kinds", none)))) := He.eqO_ok (c.fact 1 1 (f := q_a29) rfl rfl)
  have k29 : PySem.W.keepIn K (.ref (He.fAd K ("_law_kinds", none))) = true := c.fact 1 2 (f := q_k29) rfl rfl
  have a30 : PySem.W.nsIn K mainGlobals "_law_is_cut" = some (some (.ref (He.fAd K ("_law_is_cut", none)))) := He.eqO_ok (c.fact 1 3 (f := q_a30) rfl rfl)
  have k30 : PySem.W.keepIn K (.ref (He.fAd K ("_law_is_cut", none))) = true := c.fact 1 4 (f := q_k30) rfl rfl
  have a31 : PySem.W.nsIn K mainGlobals "_law_shown" = some (some (.ref (He.fAd K ("_law_shown", none)))) := He.eqO_ok (c.fact 1 5 (f := q_a31) rfl rfl)
  have k31 : PySem.W.keepIn K (.ref (He.fAd K ("_law_shown", none))) = true := c.fact 1 6 (f := q_k31) rfl rfl
  have a32 : PySem.W.nsIn K mainGlobals "_law_kin" = some (some (.ref (He.fAd K ("_law_kin", none)))) := He.eqO_ok (c.fact 1 7 (f := q_a32) rfl rfl)
  have k32 : PySem.W.keepIn K (.ref (He.fAd K ("_law_kin", none))) = true := c.fact 1 8 (f := q_k32) rfl rfl
  have a33 : PySem.W.nsIn K mainGlobals "_law_door" = some (some (.ref (He.fAd K ("_law_door", none)))) := He.eqO_ok (c.fact 1 9 (f := q_a33) rfl rfl)
  have k33 : PySem.W.keepIn K (.ref (He.fAd K ("_law_door", none))) = true := c.fact 1 10 (f := q_k33) rfl rfl
  have a34 : PySem.W.nsIn K mainGlobals "_law_equality" = some (some (.ref (He.fAd K ("_law_equality", none)))) := He.eqO_ok (c.fact 1 11 (f := q_a34) rfl rfl)
  have k34 : PySem.W.keepIn K (.ref (He.fAd K ("_law_equality", none))) = true := c.fact 1 12 (f := q_k34) rfl rfl
  have a35 : PySem.W.nsIn K mainGlobals "law" = some (some (.ref (He.fAd K ("law", none)))) := He.eqO_ok (c.fact 1 13 (f := q_a35) rfl rfl)
  have k35 : PySem.W.keepIn K (.ref (He.fAd K ("law", none))) = true := c.fact 1 14 (f := q_k35) rfl rfl
  have hn_get : PySem.W.specialIn K (.builtin "object.__class__") "__get__" = some (some (.builtin "getset_descriptor.__get__")) := He.eqO_ok (c.fact 1 15 (f := q_hn_get) rfl rfl)
  have ht_get : PySem.W.takesIn K (.builtin "object.__class__") = some true := obB_ok (c.fact 1 16 (f := q_ht_get) rfl rfl)
  have aE_PressError : PySem.W.nsIn K mainGlobals "PressError" = some (some (.ref (He.ga K "PressError"))) := He.eqO_ok (c.fact 1 17 (f := q_aE_PressError) rfl rfl)
  have aE_BadAlphabet : PySem.W.nsIn K mainGlobals "BadAlphabet" = some (some (.ref (He.ga K "BadAlphabet"))) := He.eqO_ok (c.fact 1 18 (f := q_aE_BadAlphabet) rfl rfl)
  have aE_BadLetter : PySem.W.nsIn K mainGlobals "BadLetter" = some (some (.ref (He.ga K "BadLetter"))) := He.eqO_ok (c.fact 1 19 (f := q_aE_BadLetter) rfl rfl)
  have aE_BadRow : PySem.W.nsIn K mainGlobals "BadRow" = some (some (.ref (He.ga K "BadRow"))) := He.eqO_ok (c.fact 1 20 (f := q_aE_BadRow) rfl rfl)
  have aE_BadTail : PySem.W.nsIn K mainGlobals "BadTail" = some (some (.ref (He.ga K "BadTail"))) := He.eqO_ok (c.fact 1 21 (f := q_aE_BadTail) rfl rfl)
  have aE_BadRank : PySem.W.nsIn K mainGlobals "BadRank" = some (some (.ref (He.ga K "BadRank"))) := He.eqO_ok (c.fact 1 22 (f := q_aE_BadRank) rfl rfl)
  have aE_NotBits : PySem.W.nsIn K mainGlobals "NotBits" = some (some (.ref (He.ga K "NotBits"))) := He.eqO_ok (c.fact 1 23 (f := q_aE_NotBits) rfl rfl)
  have aE_BadIndex : PySem.W.nsIn K mainGlobals "BadIndex" = some (some (.ref (He.ga K "BadIndex"))) := He.eqO_ok (c.fact 1 24 (f := q_aE_BadIndex) rfl rfl)
  have aE_BadStanding : PySem.W.nsIn K mainGlobals "BadStanding" = some (some (.ref (He.ga K "BadStanding"))) := He.eqO_ok (c.fact 1 25 (f := q_aE_BadStanding) rfl rfl)
  have aE_BadRule : PySem.W.nsIn K mainGlobals "BadRule" = some (some (.ref (He.ga K "BadRule"))) := He.eqO_ok (c.fact 1 26 (f := q_aE_BadRule) rfl rfl)
  have aE_AlphabetsDiffer : PySem.W.nsIn K mainGlobals "AlphabetsDiffer" = some (some (.ref (He.ga K "AlphabetsDiffer"))) := He.eqO_ok (c.fact 1 27 (f := q_aE_AlphabetsDiffer) rfl rfl)
  have aE_DoesNotComeBack : PySem.W.nsIn K mainGlobals "DoesNotComeBack" = some (some (.ref (He.ga K "DoesNotComeBack"))) := He.eqO_ok (c.fact 1 28 (f := q_aE_DoesNotComeBack) rfl rfl)
  have aE_TooLarge : PySem.W.nsIn K mainGlobals "TooLarge" = some (some (.ref (He.ga K "TooLarge"))) := He.eqO_ok (c.fact 1 29 (f := q_aE_TooLarge) rfl rfl)
  have aE_NotWritten : PySem.W.nsIn K mainGlobals "NotWritten" = some (some (.ref (He.ga K "NotWritten"))) := He.eqO_ok (c.fact 1 30 (f := q_aE_NotWritten) rfl rfl)
  have aE_NoSuchText : PySem.W.nsIn K mainGlobals "NoSuchText" = some (some (.ref (He.ga K "NoSuchText"))) := He.eqO_ok (c.fact 1 31 (f := q_aE_NoSuchText) rfl rfl)
  have aE_BadName : PySem.W.nsIn K mainGlobals "BadName" = some (some (.ref (He.ga K "BadName"))) := He.eqO_ok (c.fact 1 32 (f := q_aE_BadName) rfl rfl)
  have aE_NameTaken : PySem.W.nsIn K mainGlobals "NameTaken" = some (some (.ref (He.ga K "NameTaken"))) := He.eqO_ok (c.fact 1 33 (f := q_aE_NameTaken) rfl rfl)
  have aE_NoName : PySem.W.nsIn K mainGlobals "NoName" = some (some (.ref (He.ga K "NoName"))) := He.eqO_ok (c.fact 1 34 (f := q_aE_NoName) rfl rfl)
  have aE_EmptyRing : PySem.W.nsIn K mainGlobals "EmptyRing" = some (some (.ref (He.ga K "EmptyRing"))) := He.eqO_ok (c.fact 1 35 (f := q_aE_EmptyRing) rfl rfl)
  have aE_NotInLot : PySem.W.nsIn K mainGlobals "NotInLot" = some (some (.ref (He.ga K "NotInLot"))) := He.eqO_ok (c.fact 1 36 (f := q_aE_NotInLot) rfl rfl)
  have aE_BadBuild : PySem.W.nsIn K mainGlobals "BadBuild" = some (some (.ref (He.ga K "BadBuild"))) := He.eqO_ok (c.fact 1 37 (f := q_aE_BadBuild) rfl rfl)
  have aE_BadGrowth : PySem.W.nsIn K mainGlobals "BadGrowth" = some (some (.ref (He.ga K "BadGrowth"))) := He.eqO_ok (c.fact 1 38 (f := q_aE_BadGrowth) rfl rfl)
  have aE_EmptyText : PySem.W.nsIn K mainGlobals "EmptyText" = some (some (.ref (He.ga K "EmptyText"))) := He.eqO_ok (c.fact 1 39 (f := q_aE_EmptyText) rfl rfl)
  have aE_NothingToUndo : PySem.W.nsIn K mainGlobals "NothingToUndo" = some (some (.ref (He.ga K "NothingToUndo"))) := He.eqO_ok (c.fact 1 40 (f := q_aE_NothingToUndo) rfl rfl)
  have aE_NothingToRedo : PySem.W.nsIn K mainGlobals "NothingToRedo" = some (some (.ref (He.ga K "NothingToRedo"))) := He.eqO_ok (c.fact 1 41 (f := q_aE_NothingToRedo) rfl rfl)
  have ty_BadAlphabet : PySem.W.typeIn K (.ref (He.ga K "BadAlphabet")) = some (.type "type") := tyB_ok (c.fact 1 42 (f := q_ty_BadAlphabet) rfl rfl)
  have kcE_BadAlphabet : PySem.W.keepIn K (.ref (He.ga K "BadAlphabet")) = true := c.fact 1 43 (f := q_kcE_BadAlphabet) rfl rfl
  have gaE_BadAlphabet : PySem.W.findIn K (.ref (He.ga K "BadAlphabet")) "__getattribute__" = some (some (.builtin "BaseException.__getattribute__")) := He.eqO_ok (c.fact 1 44 (f := q_gaE_BadAlphabet) rfl rfl)
  have ggE_BadAlphabet : PySem.W.findIn K (.ref (He.ga K "BadAlphabet")) "__getattr__" = some none := He.eqO_ok (c.fact 1 45 (f := q_ggE_BadAlphabet) rfl rfl)
  have sbE_BadAlphabet : PySem.W.subIn K (.ref (He.ga K "BadAlphabet")) (.type "BaseException") = some true := obB_ok (c.fact 1 46 (f := q_sbE_BadAlphabet) rfl rfl)
  have hdE_BadAlphabet : PySem.W.hasDictIn K (He.ga K "BadAlphabet") = true := c.fact 1 47 (f := q_hdE_BadAlphabet) rfl rfl
  have caE_BadAlphabet : PySem.W.findIn K (.ref (He.ga K "BadAlphabet")) "__class__" = some (some (.builtin "object.__class__")) := He.eqO_ok (c.fact 1 48 (f := q_caE_BadAlphabet) rfl rfl)
  have mrE_BadAlphabet : PySem.W.mroIn K (He.ga K "BadAlphabet") (.type "object") = some true := obB_ok (c.fact 1 49 (f := q_mrE_BadAlphabet) rfl rfl)
  obtain ⟨_, _, _, _, _, _, _, _, _, _, _, _, _, _, _, xL_BadAlphabet, hb_BadAlphabet⟩ := xcB_ok (c.fact 1 50 (f := q_xL_BadAlphabet) rfl rfl)
  have saE_BadAlphabet : PySem.W.findIn K (.ref (He.ga K "BadAlphabet")) "__setattr__" = some (some (.builtin "object.__setattr__")) := He.eqO_ok (c.fact 1 51 (f := q_saE_BadAlphabet) rfl rfl)
  have iE_BadAlphabet : PySem.W.findIn K (.ref (He.ga K "BadAlphabet")) "__init__" = some (some (.ref (He.fAd K ("BadAlphabet", some "__init__")))) := He.eqO_ok (c.fact 1 52 (f := q_iE_BadAlphabet) rfl rfl)
  have tiE_BadAlphabet : PySem.W.typeIn K (.ref (He.fAd K ("BadAlphabet", some "__init__"))) = some (.type "function") := tyB_ok (c.fact 1 53 (f := q_tiE_BadAlphabet) rfl rfl)
  have kpE_BadAlphabet : PySem.W.keepIn K (.ref (He.fAd K ("BadAlphabet", some "__init__"))) = true := c.fact 1 54 (f := q_kpE_BadAlphabet) rfl rfl
  have nfE_BadAlphabet_alphabet : PySem.W.findIn K (.ref (He.ga K "BadAlphabet")) "alphabet" = some none := He.eqO_ok (c.fact 1 55 (f := q_nfE_BadAlphabet_alphabet) rfl rfl)
  have kt_BadAlphabet_PressError : PySem.W.kitOne K (.ref (He.ga K "BadAlphabet")) (.ref (He.ga K "PressError")) = some true := obB_ok (c.fact 1 56 (f := q_kt_BadAlphabet_PressError) rfl rfl)
  have kt_BadAlphabet_BadAlphabet : PySem.W.kitOne K (.ref (He.ga K "BadAlphabet")) (.ref (He.ga K "BadAlphabet")) = some true := obB_ok (c.fact 2 0 (f := q_kt_BadAlphabet_BadAlphabet) rfl rfl)
  have kt_BadAlphabet_BadLetter : PySem.W.kitOne K (.ref (He.ga K "BadAlphabet")) (.ref (He.ga K "BadLetter")) = some false := obB_ok (c.fact 2 1 (f := q_kt_BadAlphabet_BadLetter) rfl rfl)
  have kt_BadAlphabet_BadRow : PySem.W.kitOne K (.ref (He.ga K "BadAlphabet")) (.ref (He.ga K "BadRow")) = some false := obB_ok (c.fact 2 2 (f := q_kt_BadAlphabet_BadRow) rfl rfl)
  have kt_BadAlphabet_BadTail : PySem.W.kitOne K (.ref (He.ga K "BadAlphabet")) (.ref (He.ga K "BadTail")) = some false := obB_ok (c.fact 2 3 (f := q_kt_BadAlphabet_BadTail) rfl rfl)
  have kt_BadAlphabet_BadRank : PySem.W.kitOne K (.ref (He.ga K "BadAlphabet")) (.ref (He.ga K "BadRank")) = some false := obB_ok (c.fact 2 4 (f := q_kt_BadAlphabet_BadRank) rfl rfl)
  have kt_BadAlphabet_NotBits : PySem.W.kitOne K (.ref (He.ga K "BadAlphabet")) (.ref (He.ga K "NotBits")) = some false := obB_ok (c.fact 2 5 (f := q_kt_BadAlphabet_NotBits) rfl rfl)
  have kt_BadAlphabet_BadIndex : PySem.W.kitOne K (.ref (He.ga K "BadAlphabet")) (.ref (He.ga K "BadIndex")) = some false := obB_ok (c.fact 2 6 (f := q_kt_BadAlphabet_BadIndex) rfl rfl)
  have kt_BadAlphabet_BadStanding : PySem.W.kitOne K (.ref (He.ga K "BadAlphabet")) (.ref (He.ga K "BadStanding")) = some false := obB_ok (c.fact 2 7 (f := q_kt_BadAlphabet_BadStanding) rfl rfl)
  have kt_BadAlphabet_BadRule : PySem.W.kitOne K (.ref (He.ga K "BadAlphabet")) (.ref (He.ga K "BadRule")) = some false := obB_ok (c.fact 2 8 (f := q_kt_BadAlphabet_BadRule) rfl rfl)
  have kt_BadAlphabet_AlphabetsDiffer : PySem.W.kitOne K (.ref (He.ga K "BadAlphabet")) (.ref (He.ga K "AlphabetsDiffer")) = some false := obB_ok (c.fact 2 9 (f := q_kt_BadAlphabet_AlphabetsDiffer) rfl rfl)
  have kt_BadAlphabet_DoesNotComeBack : PySem.W.kitOne K (.ref (He.ga K "BadAlphabet")) (.ref (He.ga K "DoesNotComeBack")) = some false := obB_ok (c.fact 2 10 (f := q_kt_BadAlphabet_DoesNotComeBack) rfl rfl)
  have kt_BadAlphabet_TooLarge : PySem.W.kitOne K (.ref (He.ga K "BadAlphabet")) (.ref (He.ga K "TooLarge")) = some false := obB_ok (c.fact 2 11 (f := q_kt_BadAlphabet_TooLarge) rfl rfl)
  have kt_BadAlphabet_NotWritten : PySem.W.kitOne K (.ref (He.ga K "BadAlphabet")) (.ref (He.ga K "NotWritten")) = some false := obB_ok (c.fact 2 12 (f := q_kt_BadAlphabet_NotWritten) rfl rfl)
  have kt_BadAlphabet_NoSuchText : PySem.W.kitOne K (.ref (He.ga K "BadAlphabet")) (.ref (He.ga K "NoSuchText")) = some false := obB_ok (c.fact 2 13 (f := q_kt_BadAlphabet_NoSuchText) rfl rfl)
  have kt_BadAlphabet_BadName : PySem.W.kitOne K (.ref (He.ga K "BadAlphabet")) (.ref (He.ga K "BadName")) = some false := obB_ok (c.fact 2 14 (f := q_kt_BadAlphabet_BadName) rfl rfl)
  have kt_BadAlphabet_NameTaken : PySem.W.kitOne K (.ref (He.ga K "BadAlphabet")) (.ref (He.ga K "NameTaken")) = some false := obB_ok (c.fact 2 15 (f := q_kt_BadAlphabet_NameTaken) rfl rfl)
  have kt_BadAlphabet_NoName : PySem.W.kitOne K (.ref (He.ga K "BadAlphabet")) (.ref (He.ga K "NoName")) = some false := obB_ok (c.fact 2 16 (f := q_kt_BadAlphabet_NoName) rfl rfl)
  have kt_BadAlphabet_EmptyRing : PySem.W.kitOne K (.ref (He.ga K "BadAlphabet")) (.ref (He.ga K "EmptyRing")) = some false := obB_ok (c.fact 2 17 (f := q_kt_BadAlphabet_EmptyRing) rfl rfl)
  have kt_BadAlphabet_NotInLot : PySem.W.kitOne K (.ref (He.ga K "BadAlphabet")) (.ref (He.ga K "NotInLot")) = some false := obB_ok (c.fact 2 18 (f := q_kt_BadAlphabet_NotInLot) rfl rfl)
  have kt_BadAlphabet_BadBuild : PySem.W.kitOne K (.ref (He.ga K "BadAlphabet")) (.ref (He.ga K "BadBuild")) = some false := obB_ok (c.fact 2 19 (f := q_kt_BadAlphabet_BadBuild) rfl rfl)
  have kt_BadAlphabet_BadGrowth : PySem.W.kitOne K (.ref (He.ga K "BadAlphabet")) (.ref (He.ga K "BadGrowth")) = some false := obB_ok (c.fact 2 20 (f := q_kt_BadAlphabet_BadGrowth) rfl rfl)
  have kt_BadAlphabet_EmptyText : PySem.W.kitOne K (.ref (He.ga K "BadAlphabet")) (.ref (He.ga K "EmptyText")) = some false := obB_ok (c.fact 2 21 (f := q_kt_BadAlphabet_EmptyText) rfl rfl)
  have kt_BadAlphabet_NothingToUndo : PySem.W.kitOne K (.ref (He.ga K "BadAlphabet")) (.ref (He.ga K "NothingToUndo")) = some false := obB_ok (c.fact 2 22 (f := q_kt_BadAlphabet_NothingToUndo) rfl rfl)
  have kt_BadAlphabet_NothingToRedo : PySem.W.kitOne K (.ref (He.ga K "BadAlphabet")) (.ref (He.ga K "NothingToRedo")) = some false := obB_ok (c.fact 2 23 (f := q_kt_BadAlphabet_NothingToRedo) rfl rfl)
  have kt_BadAlphabet_VE : PySem.W.kitOne K (.ref (He.ga K "BadAlphabet")) (.type "ValueError") = some true := obB_ok (c.fact 2 24 (f := q_kt_BadAlphabet_VE) rfl rfl)
  have ex_BadAlphabet_BadAlphabet : PySem.W.exmOne K (.ref (He.ga K "BadAlphabet")) (.ref (He.ga K "BadAlphabet")) = some true := obB_ok (c.fact 2 25 (f := q_ex_BadAlphabet_BadAlphabet) rfl rfl)
  have ex_BadAlphabet_BadLetter : PySem.W.exmOne K (.ref (He.ga K "BadAlphabet")) (.ref (He.ga K "BadLetter")) = some false := obB_ok (c.fact 2 26 (f := q_ex_BadAlphabet_BadLetter) rfl rfl)
  have ty_BadLetter : PySem.W.typeIn K (.ref (He.ga K "BadLetter")) = some (.type "type") := tyB_ok (c.fact 2 27 (f := q_ty_BadLetter) rfl rfl)
  have kcE_BadLetter : PySem.W.keepIn K (.ref (He.ga K "BadLetter")) = true := c.fact 2 28 (f := q_kcE_BadLetter) rfl rfl
  have gaE_BadLetter : PySem.W.findIn K (.ref (He.ga K "BadLetter")) "__getattribute__" = some (some (.builtin "BaseException.__getattribute__")) := He.eqO_ok (c.fact 2 29 (f := q_gaE_BadLetter) rfl rfl)
  have ggE_BadLetter : PySem.W.findIn K (.ref (He.ga K "BadLetter")) "__getattr__" = some none := He.eqO_ok (c.fact 2 30 (f := q_ggE_BadLetter) rfl rfl)
  have sbE_BadLetter : PySem.W.subIn K (.ref (He.ga K "BadLetter")) (.type "BaseException") = some true := obB_ok (c.fact 2 31 (f := q_sbE_BadLetter) rfl rfl)
  have hdE_BadLetter : PySem.W.hasDictIn K (He.ga K "BadLetter") = true := c.fact 2 32 (f := q_hdE_BadLetter) rfl rfl
  have caE_BadLetter : PySem.W.findIn K (.ref (He.ga K "BadLetter")) "__class__" = some (some (.builtin "object.__class__")) := He.eqO_ok (c.fact 2 33 (f := q_caE_BadLetter) rfl rfl)
  have mrE_BadLetter : PySem.W.mroIn K (He.ga K "BadLetter") (.type "object") = some true := obB_ok (c.fact 2 34 (f := q_mrE_BadLetter) rfl rfl)
  obtain ⟨_, _, _, _, _, _, _, _, _, _, _, _, _, _, _, xL_BadLetter, hb_BadLetter⟩ := xcB_ok (c.fact 2 35 (f := q_xL_BadLetter) rfl rfl)
  have saE_BadLetter : PySem.W.findIn K (.ref (He.ga K "BadLetter")) "__setattr__" = some (some (.builtin "object.__setattr__")) := He.eqO_ok (c.fact 2 36 (f := q_saE_BadLetter) rfl rfl)
  have iE_BadLetter : PySem.W.findIn K (.ref (He.ga K "BadLetter")) "__init__" = some (some (.ref (He.fAd K ("BadLetter", some "__init__")))) := He.eqO_ok (c.fact 2 37 (f := q_iE_BadLetter) rfl rfl)
  have tiE_BadLetter : PySem.W.typeIn K (.ref (He.fAd K ("BadLetter", some "__init__"))) = some (.type "function") := tyB_ok (c.fact 2 38 (f := q_tiE_BadLetter) rfl rfl)
  have kpE_BadLetter : PySem.W.keepIn K (.ref (He.fAd K ("BadLetter", some "__init__"))) = true := c.fact 2 39 (f := q_kpE_BadLetter) rfl rfl
  have nfE_BadLetter_index : PySem.W.findIn K (.ref (He.ga K "BadLetter")) "index" = some none := He.eqO_ok (c.fact 2 40 (f := q_nfE_BadLetter_index) rfl rfl)
  have kt_BadLetter_PressError : PySem.W.kitOne K (.ref (He.ga K "BadLetter")) (.ref (He.ga K "PressError")) = some true := obB_ok (c.fact 2 41 (f := q_kt_BadLetter_PressError) rfl rfl)
  have kt_BadLetter_BadAlphabet : PySem.W.kitOne K (.ref (He.ga K "BadLetter")) (.ref (He.ga K "BadAlphabet")) = some false := obB_ok (c.fact 2 42 (f := q_kt_BadLetter_BadAlphabet) rfl rfl)
  have kt_BadLetter_BadLetter : PySem.W.kitOne K (.ref (He.ga K "BadLetter")) (.ref (He.ga K "BadLetter")) = some true := obB_ok (c.fact 2 43 (f := q_kt_BadLetter_BadLetter) rfl rfl)
  have kt_BadLetter_BadRow : PySem.W.kitOne K (.ref (He.ga K "BadLetter")) (.ref (He.ga K "BadRow")) = some false := obB_ok (c.fact 2 44 (f := q_kt_BadLetter_BadRow) rfl rfl)
  have kt_BadLetter_BadTail : PySem.W.kitOne K (.ref (He.ga K "BadLetter")) (.ref (He.ga K "BadTail")) = some false := obB_ok (c.fact 2 45 (f := q_kt_BadLetter_BadTail) rfl rfl)
  have kt_BadLetter_BadRank : PySem.W.kitOne K (.ref (He.ga K "BadLetter")) (.ref (He.ga K "BadRank")) = some false := obB_ok (c.fact 2 46 (f := q_kt_BadLetter_BadRank) rfl rfl)
  have kt_BadLetter_NotBits : PySem.W.kitOne K (.ref (He.ga K "BadLetter")) (.ref (He.ga K "NotBits")) = some false := obB_ok (c.fact 2 47 (f := q_kt_BadLetter_NotBits) rfl rfl)
  have kt_BadLetter_BadIndex : PySem.W.kitOne K (.ref (He.ga K "BadLetter")) (.ref (He.ga K "BadIndex")) = some false := obB_ok (c.fact 2 48 (f := q_kt_BadLetter_BadIndex) rfl rfl)
  have kt_BadLetter_BadStanding : PySem.W.kitOne K (.ref (He.ga K "BadLetter")) (.ref (He.ga K "BadStanding")) = some false := obB_ok (c.fact 2 49 (f := q_kt_BadLetter_BadStanding) rfl rfl)
  have kt_BadLetter_BadRule : PySem.W.kitOne K (.ref (He.ga K "BadLetter")) (.ref (He.ga K "BadRule")) = some false := obB_ok (c.fact 2 50 (f := q_kt_BadLetter_BadRule) rfl rfl)
  have kt_BadLetter_AlphabetsDiffer : PySem.W.kitOne K (.ref (He.ga K "BadLetter")) (.ref (He.ga K "AlphabetsDiffer")) = some false := obB_ok (c.fact 2 51 (f := q_kt_BadLetter_AlphabetsDiffer) rfl rfl)
  have kt_BadLetter_DoesNotComeBack : PySem.W.kitOne K (.ref (He.ga K "BadLetter")) (.ref (He.ga K "DoesNotComeBack")) = some false := obB_ok (c.fact 2 52 (f := q_kt_BadLetter_DoesNotComeBack) rfl rfl)
  have kt_BadLetter_TooLarge : PySem.W.kitOne K (.ref (He.ga K "BadLetter")) (.ref (He.ga K "TooLarge")) = some false := obB_ok (c.fact 2 53 (f := q_kt_BadLetter_TooLarge) rfl rfl)
  have kt_BadLetter_NotWritten : PySem.W.kitOne K (.ref (He.ga K "BadLetter")) (.ref (He.ga K "NotWritten")) = some false := obB_ok (c.fact 2 54 (f := q_kt_BadLetter_NotWritten) rfl rfl)
  have kt_BadLetter_NoSuchText : PySem.W.kitOne K (.ref (He.ga K "BadLetter")) (.ref (He.ga K "NoSuchText")) = some false := obB_ok (c.fact 2 55 (f := q_kt_BadLetter_NoSuchText) rfl rfl)
  have kt_BadLetter_BadName : PySem.W.kitOne K (.ref (He.ga K "BadLetter")) (.ref (He.ga K "BadName")) = some false := obB_ok (c.fact 2 56 (f := q_kt_BadLetter_BadName) rfl rfl)
  have kt_BadLetter_NameTaken : PySem.W.kitOne K (.ref (He.ga K "BadLetter")) (.ref (He.ga K "NameTaken")) = some false := obB_ok (c.fact 3 0 (f := q_kt_BadLetter_NameTaken) rfl rfl)
  have kt_BadLetter_NoName : PySem.W.kitOne K (.ref (He.ga K "BadLetter")) (.ref (He.ga K "NoName")) = some false := obB_ok (c.fact 3 1 (f := q_kt_BadLetter_NoName) rfl rfl)
  have kt_BadLetter_EmptyRing : PySem.W.kitOne K (.ref (He.ga K "BadLetter")) (.ref (He.ga K "EmptyRing")) = some false := obB_ok (c.fact 3 2 (f := q_kt_BadLetter_EmptyRing) rfl rfl)
  have kt_BadLetter_NotInLot : PySem.W.kitOne K (.ref (He.ga K "BadLetter")) (.ref (He.ga K "NotInLot")) = some false := obB_ok (c.fact 3 3 (f := q_kt_BadLetter_NotInLot) rfl rfl)
  have kt_BadLetter_BadBuild : PySem.W.kitOne K (.ref (He.ga K "BadLetter")) (.ref (He.ga K "BadBuild")) = some false := obB_ok (c.fact 3 4 (f := q_kt_BadLetter_BadBuild) rfl rfl)
  have kt_BadLetter_BadGrowth : PySem.W.kitOne K (.ref (He.ga K "BadLetter")) (.ref (He.ga K "BadGrowth")) = some false := obB_ok (c.fact 3 5 (f := q_kt_BadLetter_BadGrowth) rfl rfl)
  have kt_BadLetter_EmptyText : PySem.W.kitOne K (.ref (He.ga K "BadLetter")) (.ref (He.ga K "EmptyText")) = some false := obB_ok (c.fact 3 6 (f := q_kt_BadLetter_EmptyText) rfl rfl)
  have kt_BadLetter_NothingToUndo : PySem.W.kitOne K (.ref (He.ga K "BadLetter")) (.ref (He.ga K "NothingToUndo")) = some false := obB_ok (c.fact 3 7 (f := q_kt_BadLetter_NothingToUndo) rfl rfl)
  have kt_BadLetter_NothingToRedo : PySem.W.kitOne K (.ref (He.ga K "BadLetter")) (.ref (He.ga K "NothingToRedo")) = some false := obB_ok (c.fact 3 8 (f := q_kt_BadLetter_NothingToRedo) rfl rfl)
  have kt_BadLetter_VE : PySem.W.kitOne K (.ref (He.ga K "BadLetter")) (.type "ValueError") = some true := obB_ok (c.fact 3 9 (f := q_kt_BadLetter_VE) rfl rfl)
  have ex_BadLetter_BadAlphabet : PySem.W.exmOne K (.ref (He.ga K "BadLetter")) (.ref (He.ga K "BadAlphabet")) = some false := obB_ok (c.fact 3 10 (f := q_ex_BadLetter_BadAlphabet) rfl rfl)
  have ex_BadLetter_BadLetter : PySem.W.exmOne K (.ref (He.ga K "BadLetter")) (.ref (He.ga K "BadLetter")) = some true := obB_ok (c.fact 3 11 (f := q_ex_BadLetter_BadLetter) rfl rfl)
  have aC_Cut : PySem.W.nsIn K mainGlobals "Cut" = some (some (.ref (He.ga K "Cut"))) := He.eqO_ok (c.fact 3 12 (f := q_aC_Cut) rfl rfl)
  have pg_Cut : PySem.W.plainGet K (He.ga K "Cut") Str.empty = true := c.fact 3 13 (f := q_pg_Cut) rfl rfl
  have hd_Cut : PySem.W.hasDictIn K (He.ga K "Cut") = true := c.fact 3 14 (f := q_hd_Cut) rfl rfl
  have po_Cut : PySem.W.plainOver K (He.ga K "Cut") = true := c.fact 3 15 (f := q_po_Cut) rfl rfl
  have sa_Cut : PySem.W.findIn K (.ref (He.ga K "Cut")) "__setattr__" = some (some (.builtin "object.__setattr__")) := He.eqO_ok (c.fact 3 16 (f := q_sa_Cut) rfl rfl)
  have mk_Cut : PySem.W.makesIn K (He.ga K "Cut") = true := c.fact 3 17 (f := q_mk_Cut) rfl rfl
  have kc_Cut : PySem.W.keepIn K (.ref (He.ga K "Cut")) = true := c.fact 3 18 (f := q_kc_Cut) rfl rfl
  have n_Cut_alphabet : PySem.W.findIn K (.ref (He.ga K "Cut")) "alphabet" = some none := He.eqO_ok (c.fact 3 19 (f := q_n_Cut_alphabet) rfl rfl)
  have n_Cut_rows : PySem.W.findIn K (.ref (He.ga K "Cut")) "rows" = some none := He.eqO_ok (c.fact 3 20 (f := q_n_Cut_rows) rfl rfl)
  have n_Cut_tail : PySem.W.findIn K (.ref (He.ga K "Cut")) "tail" = some none := He.eqO_ok (c.fact 3 21 (f := q_n_Cut_tail) rfl rfl)
  have n_Cut_pieces : PySem.W.findIn K (.ref (He.ga K "Cut")) "pieces" = some none := He.eqO_ok (c.fact 3 22 (f := q_n_Cut_pieces) rfl rfl)
  have n_Cut_many : PySem.W.findIn K (.ref (He.ga K "Cut")) "many" = some none := He.eqO_ok (c.fact 3 23 (f := q_n_Cut_many) rfl rfl)
  have n_Cut_text : PySem.W.findIn K (.ref (He.ga K "Cut")) "text" = some none := He.eqO_ok (c.fact 3 24 (f := q_n_Cut_text) rfl rfl)
  have n_Cut_starts : PySem.W.findIn K (.ref (He.ga K "Cut")) "starts" = some none := He.eqO_ok (c.fact 3 25 (f := q_n_Cut_starts) rfl rfl)
  have hcQ_Cut : PySem.W.findIn K (.ref (He.ga K "Cut")) "__class__" = some (some (.builtin "object.__class__")) := He.eqO_ok (c.fact 3 26 (f := q_hcQ_Cut) rfl rfl)
  have moQ_Cut : PySem.W.mroIn K (He.ga K "Cut") (.type "object") = some true := obB_ok (c.fact 3 27 (f := q_moQ_Cut) rfl rfl)
  have kkQ_Cut : PySem.W.kitOne K (.ref (He.ga K "Cut")) (.ref (He.ga K "Cut")) = some true := obB_ok (c.fact 3 28 (f := q_kkQ_Cut) rfl rfl)
  have ksQ_Cut : PySem.W.kitOne K (.type "str") (.ref (He.ga K "Cut")) = some false := obB_ok (c.fact 3 29 (f := q_ksQ_Cut) rfl rfl)
  have a36 : PySem.W.findIn K (.ref (He.ga K "Cut")) "__init__" = some (some (.ref (He.fAd K ("Cut", some "__init__")))) := He.eqO_ok (c.fact 3 30 (f := q_a36) rfl rfl)
  have i36 : PySem.W.isFn K (.ref (He.fAd K ("Cut", some "__init__"))) = true := c.fact 3 31 (f := q_i36) rfl rfl
  have k36 : PySem.W.keepIn K (.ref (He.fAd K ("Cut", some "__init__"))) = true := c.fact 3 32 (f := q_k36) rfl rfl
  have a37 : PySem.W.findIn K (.ref (He.ga K "Cut")) "__eq__" = some (some (.ref (He.fAd K ("Cut", some "__eq__")))) := He.eqO_ok (c.fact 3 33 (f := q_a37) rfl rfl)
  have i37 : PySem.W.isFn K (.ref (He.fAd K ("Cut", some "__eq__"))) = true := c.fact 3 34 (f := q_i37) rfl rfl
  have k37 : PySem.W.keepIn K (.ref (He.fAd K ("Cut", some "__eq__"))) = true := c.fact 3 35 (f := q_k37) rfl rfl
  have z_ValueError : PySem.W.nsIn K mainGlobals "ValueError" = some none := He.eqO_ok (c.fact 3 36 (f := q_z_ValueError) rfl rfl)
  have z_all : PySem.W.nsIn K mainGlobals "all" = some none := He.eqO_ok (c.fact 3 37 (f := q_z_all) rfl rfl)
  have z_bool : PySem.W.nsIn K mainGlobals "bool" = some none := He.eqO_ok (c.fact 3 38 (f := q_z_bool) rfl rfl)
  have z_enumerate : PySem.W.nsIn K mainGlobals "enumerate" = some none := He.eqO_ok (c.fact 3 39 (f := q_z_enumerate) rfl rfl)
  have z_int : PySem.W.nsIn K mainGlobals "int" = some none := He.eqO_ok (c.fact 3 40 (f := q_z_int) rfl rfl)
  have z_isinstance : PySem.W.nsIn K mainGlobals "isinstance" = some none := He.eqO_ok (c.fact 3 41 (f := q_z_isinstance) rfl rfl)
  have z_len : PySem.W.nsIn K mainGlobals "len" = some none := He.eqO_ok (c.fact 3 42 (f := q_z_len) rfl rfl)
  have z_list : PySem.W.nsIn K mainGlobals "list" = some none := He.eqO_ok (c.fact 3 43 (f := q_z_list) rfl rfl)
  have z_max : PySem.W.nsIn K mainGlobals "max" = some none := He.eqO_ok (c.fact 3 44 (f := q_z_max) rfl rfl)
  have z_min : PySem.W.nsIn K mainGlobals "min" = some none := He.eqO_ok (c.fact 3 45 (f := q_z_min) rfl rfl)
  have z_range : PySem.W.nsIn K mainGlobals "range" = some none := He.eqO_ok (c.fact 3 46 (f := q_z_range) rfl rfl)
  have z_repr : PySem.W.nsIn K mainGlobals "repr" = some none := He.eqO_ok (c.fact 3 47 (f := q_z_repr) rfl rfl)
  have z_sorted : PySem.W.nsIn K mainGlobals "sorted" = some none := He.eqO_ok (c.fact 3 48 (f := q_z_sorted) rfl rfl)
  have z_str : PySem.W.nsIn K mainGlobals "str" = some none := He.eqO_ok (c.fact 3 49 (f := q_z_str) rfl rfl)
  have z_tuple : PySem.W.nsIn K mainGlobals "tuple" = some none := He.eqO_ok (c.fact 3 50 (f := q_z_tuple) rfl rfl)
  have z_zip : PySem.W.nsIn K mainGlobals "zip" = some none := He.eqO_ok (c.fact 3 51 (f := q_z_zip) rfl rfl)
  obtain ⟨_, g_LETTERS⟩ := strB_ok (c.fact 3 52 (f := q_g_LETTERS) rfl rfl)
  obtain ⟨_, g_MOST_LETTERS⟩ := intB_ok (c.fact 3 53 (f := q_g_MOST_LETTERS) rfl rfl)
  exact all_mk X G hfa a0 l0 c0 k0 a1 l1 c1 k1 a2 l2 c2 k2 a3 l3 c3 k3 a4 l4 c4 k4 a5 l5 c5 k5 a6 l6 c6 k6 a7 l7 c7 k7 a8 l8 c8 k8 a9 l9 c9 k9 a10 l10 c10 k10 a11 l11 c11 k11 a12 l12 c12 k12 a13 l13 c13 k13 a14 l14 c14 k14 a15 l15 c15 k15 a16 l16 c16 k16 a17 l17 c17 k17 a18 l18 c18 k18 a19 l19 c19 k19 a20 l20 c20 k20 a21 l21 c21 k21 a22 l22 c22 k22 a23 l23 c23 k23 a24 l24 c24 k24 a25 l25 c25 k25 a26 l26 c26 k26 a27 l27 c27 k27 a28 l28 c28 k28 a29 l29 c29 k29 a30 l30 c30 k30 a31 l31 c31 k31 a32 l32 c32 k32 a33 l33 c33 k33 a34 l34 c34 k34 a35 l35 c35 k35 hn_get ht_get aE_PressError aE_BadAlphabet aE_BadLetter aE_BadRow aE_BadTail aE_BadRank aE_NotBits aE_BadIndex aE_BadStanding aE_BadRule aE_AlphabetsDiffer aE_DoesNotComeBack aE_TooLarge aE_NotWritten aE_NoSuchText aE_BadName aE_NameTaken aE_NoName aE_EmptyRing aE_NotInLot aE_BadBuild aE_BadGrowth aE_EmptyText aE_NothingToUndo aE_NothingToRedo ty_BadAlphabet kcE_BadAlphabet gaE_BadAlphabet ggE_BadAlphabet sbE_BadAlphabet hdE_BadAlphabet caE_BadAlphabet mrE_BadAlphabet xL_BadAlphabet hb_BadAlphabet saE_BadAlphabet iE_BadAlphabet tiE_BadAlphabet lE_BadAlphabet ccE_BadAlphabet kpE_BadAlphabet nfE_BadAlphabet_alphabet kt_BadAlphabet_PressError kt_BadAlphabet_BadAlphabet kt_BadAlphabet_BadLetter kt_BadAlphabet_BadRow kt_BadAlphabet_BadTail kt_BadAlphabet_BadRank kt_BadAlphabet_NotBits kt_BadAlphabet_BadIndex kt_BadAlphabet_BadStanding kt_BadAlphabet_BadRule kt_BadAlphabet_AlphabetsDiffer kt_BadAlphabet_DoesNotComeBack kt_BadAlphabet_TooLarge kt_BadAlphabet_NotWritten kt_BadAlphabet_NoSuchText kt_BadAlphabet_BadName kt_BadAlphabet_NameTaken kt_BadAlphabet_NoName kt_BadAlphabet_EmptyRing kt_BadAlphabet_NotInLot kt_BadAlphabet_BadBuild kt_BadAlphabet_BadGrowth kt_BadAlphabet_EmptyText kt_BadAlphabet_NothingToUndo kt_BadAlphabet_NothingToRedo kt_BadAlphabet_VE ex_BadAlphabet_BadAlphabet ex_BadAlphabet_BadLetter ty_BadLetter kcE_BadLetter gaE_BadLetter ggE_BadLetter sbE_BadLetter hdE_BadLetter caE_BadLetter mrE_BadLetter xL_BadLetter hb_BadLetter saE_BadLetter iE_BadLetter tiE_BadLetter lE_BadLetter ccE_BadLetter kpE_BadLetter nfE_BadLetter_index kt_BadLetter_PressError kt_BadLetter_BadAlphabet kt_BadLetter_BadLetter kt_BadLetter_BadRow kt_BadLetter_BadTail kt_BadLetter_BadRank kt_BadLetter_NotBits kt_BadLetter_BadIndex kt_BadLetter_BadStanding kt_BadLetter_BadRule kt_BadLetter_AlphabetsDiffer kt_BadLetter_DoesNotComeBack kt_BadLetter_TooLarge kt_BadLetter_NotWritten kt_BadLetter_NoSuchText kt_BadLetter_BadName kt_BadLetter_NameTaken kt_BadLetter_NoName kt_BadLetter_EmptyRing kt_BadLetter_NotInLot kt_BadLetter_BadBuild kt_BadLetter_BadGrowth kt_BadLetter_EmptyText kt_BadLetter_NothingToUndo kt_BadLetter_NothingToRedo kt_BadLetter_VE ex_BadLetter_BadAlphabet ex_BadLetter_BadLetter aC_Cut pg_Cut hd_Cut po_Cut sa_Cut mk_Cut kc_Cut n_Cut_alphabet n_Cut_rows n_Cut_tail n_Cut_pieces n_Cut_many n_Cut_text n_Cut_starts hcQ_Cut moQ_Cut kkQ_Cut ksQ_Cut a36 i36 l36 c36 k36 a37 i37 l37 c37 k37 z_ValueError z_all z_bool z_enumerate z_int z_isinstance z_len z_list z_max z_min z_range z_repr z_sorted z_str z_tuple z_zip g_LETTERS g_MOST_LETTERS
end Ver
open PySem PySem.W PyProof.Rows
set_option maxRecDepth 100000 in
set_option maxHeartbeats 0 in
theorem PySem.Challenge.cw_outpressed_k00_cut_whole_holds : PySem.Challenge.rw_outpressed_k00_cut_whole.Holds := by
  w_on; o_law
  refine HandSHeadRun.head_any (r := Ver.RR) (q := Ver.qv) (H := Ver.hk) (ob := Ver.obT) (M := 20000) (loose := Ver.nms) (d := HandSHeadRun.topDef Ver.RR.prog 68) (kwd := []) Ver.obT_eq
    (by kernel_rfl) (fun s => by kernel_rfl) Ver.runs (by kernel_rfl) (by kernel_rfl) (by kernel_rfl) (by rfl) (by first | assumption | decide +kernel) (by decide +kernel) ⟨rfl, rfl, rfl, rfl, rfl, by decide +kernel⟩ ?hw ?hc
  case hw => w_witness2
  case hc =>
    refine Ver.walkHG (l := PySem.Challenge.rw_outpressed_k00_cut_whole) (n := 63) (k := 9) (x := "script") (sp := fun _ K => Ver.spLaw K) (S := Ver.SaysH Ver.qs Ver.fns) rfl (by decide) (by kernel_rfl) ⟨rfl, by decide, by decide⟩ (fun _ _ Y => Y) ?F (fun _ K _ a ns hl _ hS => ⟨a, ns, rfl, hS, hl, fun _ => rfl⟩)
    intro w mg fa h K KX c G hmg0
    have e : (HandSHeadRun.topDef Ver.RR.prog 68).name = ("law" : PySem.Str) := by kernel_rfl
    rw [e] at hmg0
    exact Ver.facts KX c G hmg0

import PyProof.Rows.All
import Wide.All
import OpenK.AllK
import Wide.FinOn
import HandS.ForMost
import HandS.Evl
import HandS.WideBits
import HandS.IsInst
import HandS.Defaults
import HandS.StrMore
import HandS.Conv
import HandS.Walk
import HandS.FStr
import HandS.Style
import HandS.Replace
import HandS.Strs
import PyProof.FString3
import PyProof.SliceStr2
import KE.GoesEnumKw
import KE.GoesZip
import KE.LtData
import KE.GoesMore
import PyProof.EnumMake
import PyProof.Rows.StrIntSpec
import HandS.Codes
import PyProof.Rows.StrRev
import PyProof.StrLawsIn
import PyProof.StrBlock2
import HandS.DictTup
import HandS.TupLen
import PyProof.StrLawsFrom
import PyProof.Draws
import PyProof.DictMoreH
import HandS.Gcd
import Flt.RightSqrt
import HandS.Exc
import HandS.ExcOwn
import HandS.ExcInit
import HandS.ExcField
import HandS.ExcIs
import HandS.HotCalls
import HandS.TryMany
import HandS.WordsExc
import HandS.Lambda
import KE.KExcIs
import HandS.ExcValue
import HandS.OwnEq
import HandS.MakeKwOnly
import PyProof.ReprRoads
import PyProof.CollectStr
import HandS.Deep
import HandS.ClsMeth
import HandS.CallSlots
import HandS.DictComp
import PyProof.MaxThree
import HandS.TupAny
import HandS.Text
import HandS.Head0
import HandS.Head1
import HandS.Head2
import HandS.HeadEnd
import HandS.HeadHook1
import HandS.HeadHook2
import HandS.HeadNt
import PySem.Challenge.RW_outpressed_k55_lead_loop_judged
set_option Elab.async false
set_option linter.all false
set_option maxRecDepth 100000
set_option maxHeartbeats 8000000
namespace Ver
open PySem PySem.Spec PyProof.Rows L2 Evl
/-! ### for over a list or a tuple -/
def iSeq (K : PySem.W.Frag) (te : TE) : TI := fun σ H R => te σ H fun x H1 => ∃ a : Addr, x = .ref a ∧ ((∃ xs, SqL K H1 a xs ∧ R (Itl K a) H1) ∨ (∃ xs, SqT K H1 a xs ∧ R (Itt K a) H1))
section
variable {X : Cx}
theorem pi_seq {tg e : Expr} {te : TE} (he : PE X e te) : PI X tg e (iSeq X.K te) := by
  refine ⟨fun pins s σ H R I h => ?_⟩
  refine thn (he.run pins s σ H _ I h) ?_
  intro v s1 got
  obtain ⟨x, H1, I1, r1, a, rfl, q⟩ := got
  cases (show v = Value.ref a from r1)
  have hd : PE X e te := he
  rcases q with ⟨xs, hs, q⟩ | ⟨xs, hs, q⟩
  · obtain ⟨its, _, p, _⟩ := I1.list hs
    refine wpAny_pyIter_list p.isList ?_
    exact pi_one (tk := s1.toks) I1 _ (turn_list a _) ⟨_, Heap.get?_push_size _ rfl, rfl, rfl⟩ q
  · obtain ⟨its, _, p, _⟩ := I1.tuple hs
    refine wpAny_pyIter_tuple (show s1.heap.IsTuple a its.toArray from p) ?_
    exact pi_one (tk := s1.toks) I1 _ (turn_tuple a _) ⟨_, Heap.get?_push_size _ rfl, rfl, rfl⟩ q
/-! ### a < b of data that are alike -/
def rLtD (K : PySem.W.Frag) : R2 := fun x y H Q => ∃ d e, Dp K H x d ∧ Dp K H y e ∧ PySem.W.alike d e = true ∧ d ≠ .none ∧ d.depth ≤ 32 ∧ Q (.bl (PySem.W.dataLt d e)) H
theorem op_ltD (hu : X.A.units + 64 < cLine) : OpR X (compareOp .Lt) (rLtD X.K) := by
  intro pins s σ H x y v u Q I rx ry h
  obtain ⟨d, e, hd, he, al, nn, dep, q⟩ := h
  obtain ⟨as, r1⟩ := Dp.reads I d x v hd rx
  obtain ⟨bs, r2⟩ := Dp.reads I e y u he ry
  have room : X.A.units + min d.depth e.depth < cLine := by
    have := Nat.min_le_left d.depth e.depth
    omega
  have k := PySem.W.rcLt_alike d e X.A s v u as bs r1 r2 al nn room
  exact k X.prog X.w X.xe _ ⟨.bl _, H, I, rfl, q⟩
/-! ### text[::-1]: some text of its signs, no longer -/
def tRevS (te : TE) : TE := fun σ H Q => te σ H fun x H1 => ∃ z : Str, x = .str z ∧ z.length ≤ sizeLine ∧ ∀ y : Str, (∀ c ∈ y.cps.toList, c ∈ z.cps.toList) → y.length ≤ z.length → Q (.str y) H1
end
end Ver
namespace Ver
def at0 (ps : List Int) (i : Nat) : Int := ps.getD i 0
/-! ### strings of bits as lists of codes -/
def bit1 (c : Nat) : Int := if c = 49 then 1 else 0
def val (l : List Nat) : Int := l.foldl (fun v c => v * 2 + bit1 c) 0
def Digs (l : List Nat) : Prop := ∀ c, c ∈ l → c = 48 ∨ c = 49
def p2 : Nat → Int
  | 0 => 1
  | n + 1 => p2 n * 2
theorem p2_pos : ∀ n, 0 < p2 n
  | 0 => by decide
  | n + 1 => by
    have h := p2_pos n
    show 0 < p2 n * 2
    omega
theorem p2_cast : ∀ n, p2 n = ((2 ^ n : Nat) : Int)
  | 0 => rfl
  | n + 1 => by
    show p2 n * 2 = _
    rw [p2_cast n, Nat.pow_succ, Int.natCast_mul]
    rfl
def valR : List Nat → Int
  | [] => 0
  | c :: r => bit1 c * p2 r.length + valR r
theorem fold_val : ∀ (l : List Nat) (a : Int), l.foldl (fun v c => v * 2 + bit1 c) a = a * p2 l.length + valR l
  | [], a => by
    show a = a * 1 + 0
    omega
  | c :: r, a => by
    show r.foldl (fun v c => v * 2 + bit1 c) (a * 2 + bit1 c) = a * (p2 r.length * 2) + (bit1 c * p2 r.length + valR r)
    rw [fold_val r, Int.add_mul]
    have e : a * 2 * p2 r.length = a * (p2 r.length * 2) := by rw [Int.mul_assoc, Int.mul_comm 2]
    rw [e]
    omega
theorem val_R (l : List Nat) : val l = valR l := by
  unfold val
  rw [fold_val l 0]
  omega
theorem valR_bound : ∀ l : List Nat, 0 ≤ valR l ∧ valR l < p2 l.length
  | [] => ⟨Int.le_refl 0, by decide⟩
  | c :: r => by
    obtain ⟨h1, h2⟩ := valR_bound r
    show 0 ≤ bit1 c * p2 r.length + valR r ∧ bit1 c * p2 r.length + valR r < p2 r.length * 2
    unfold bit1
    split
    · omega
    · omega
theorem lex_of_val : ∀ (a b : List Nat), a.length = b.length → Digs a → Digs b → valR a < valR b → a < b
  | [], [], _, _, _, h => absurd h (Int.lt_irrefl 0)
  | [], _ :: _, h, _, _, _ => nomatch h
  | _ :: _, [], h, _, _, _ => nomatch h
  | x :: r, y :: t, hl, ha, hb, hv => by
    have hl2 : r.length = t.length := Nat.succ.inj hl
    have b1 := valR_bound r
    have b2 := valR_bound t
    have hx := ha x (List.mem_cons_self ..)
    have hy := hb y (List.mem_cons_self ..)
    have hv2 : bit1 x * p2 r.length + valR r < bit1 y * p2 t.length + valR t := hv
    rw [← hl2] at hv2 b2
    rw [List.cons_lt_cons_iff]
    rcases hx with rfl | rfl
    · rcases hy with rfl | rfl
      · refine .inr ⟨rfl, lex_of_val r t hl2 (fun c h => ha c (List.mem_cons_of_mem _ h)) (fun c h => hb c (List.mem_cons_of_mem _ h)) ?_⟩
        simp only [bit1] at hv2
        omega
      · exact .inl (by decide)
    · rcases hy with rfl | rfl
      · simp only [bit1] at hv2
        simp at hv2
        omega
      · refine .inr ⟨rfl, lex_of_val r t hl2 (fun c h => ha c (List.mem_cons_of_mem _ h)) (fun c h => hb c (List.mem_cons_of_mem _ h)) ?_⟩
        simp only [bit1] at hv2
        omega
theorem valR_append : ∀ (a b : List Nat), valR (a ++ b) = valR a * p2 b.length + valR b
  | [], b => by
    show valR b = 0 * p2 b.length + valR b
    omega
  | c :: r, b => by
    have ih := valR_append r b
    show bit1 c * p2 (r ++ b).length + valR (r ++ b) = (bit1 c * p2 r.length + valR r) * p2 b.length + valR b
    have e : p2 (r ++ b).length = p2 r.length * p2 b.length := by
      rw [p2_cast, p2_cast, p2_cast, List.length_append, Nat.pow_add, Int.natCast_mul]
    rw [ih, e, Int.add_mul, Int.mul_assoc]
    omega
theorem valR_zeros : ∀ n : Nat, valR (List.replicate n 48) = 0
  | 0 => rfl
  | n + 1 => by
    show bit1 48 * p2 (List.replicate n 48).length + valR (List.replicate n 48) = 0
    rw [valR_zeros n]
    show (0 : Int) * _ + 0 = 0
    omega
def bins (n : Nat) : List Nat := (Nat.toDigits 2 n).map Char.toNat
theorem bins_ok (n : Nat) : Digs (bins n) ∧ valR (bins n) = (n : Int) := by
  induction n using Nat.strongRecOn with
  | ind n ih =>
    unfold bins
    rw [Nat.toDigits_eq_if (by decide)]
    by_cases h : n < 2
    · rw [if_pos h]
      have : n = 0 ∨ n = 1 := by omega
      rcases this with rfl | rfl
      · exact ⟨fun c hc => .inl (List.mem_singleton.mp (show c ∈ [48] from hc)), rfl⟩
      · exact ⟨fun c hc => .inr (List.mem_singleton.mp (show c ∈ [49] from hc)), rfl⟩
    · rw [if_neg h, List.map_append]
      obtain ⟨h1, h2⟩ := ih (n / 2) (by omega)
      have hm : n % 2 = 0 ∨ n % 2 = 1 := by omega
      refine ⟨fun c hc => ?_, ?_⟩
      · rcases List.mem_append.mp hc with hc | hc
        · exact h1 c hc
        · rcases hm with e | e
          · rw [e] at hc
            exact .inl (List.mem_singleton.mp (show c ∈ [48] from hc))
          · rw [e] at hc
            exact .inr (List.mem_singleton.mp (show c ∈ [49] from hc))
      · have e1 : valR (List.map Char.toNat (Nat.toDigits 2 (n / 2))) = ((n / 2 : Nat) : Int) := h2
        rw [valR_append, e1]
        rcases hm with e | e
        · rw [e]
          show ((n / 2 : Nat) : Int) * 2 + 0 = (n : Int)
          omega
        · rw [e]
          show ((n / 2 : Nat) : Int) * 2 + 1 = (n : Int)
          omega
theorem bins_len {n k : Nat} (hk : 0 < k) (h : n < 2 ^ k) : (bins n).length ≤ k := by
  unfold bins
  rw [List.length_map]
  exact (Nat.length_toDigits_le_iff (by decide) hk).mpr h
theorem bins_pos (n : Nat) : 0 < (bins n).length := by
  unfold bins
  rw [List.length_map]
  exact Nat.length_toDigits_pos
/-- n as exactly w bits -/
def nbL (n w : Nat) : List Nat := if w = 0 then [] else List.replicate (w - (bins n).length) 48 ++ bins n
structure Nb (l : List Nat) (n : Int) (w : Nat) : Prop where
  len : l.length = w
  digs : Digs l
  v : valR l = n
theorem nb_ok {n w : Nat} (h : n < 2 ^ w) : Nb (nbL n w) (n : Int) w := by
  unfold nbL
  by_cases c : w = 0
  · subst c
    have : n = 0 := by
      rw [Nat.pow_zero] at h
      omega
    subst this
    exact ⟨rfl, fun c hc => (nomatch hc), rfl⟩
  · rw [if_neg c]
    have hl := bins_len (by omega) h
    obtain ⟨h1, h2⟩ := bins_ok n
    refine ⟨?_, fun d hd => ?_, ?_⟩
    · rw [List.length_append, List.length_replicate]
      omega
    · rcases List.mem_append.mp hd with hd | hd
      · exact .inl (List.eq_of_mem_replicate hd)
      · exact h1 d hd
    · rw [valR_append, valR_zeros, h2]
      omega
end Ver
namespace Ver
open PySem PySem.Spec PyProof.Rows L2 Evl
/-! called with keywords alone -/
section
variable {X : Cx} {CX : CXT} {k : Nat} {f : Addr} {fd : FuncData} {ps ks : List Str} {sp : Sp} {E : XK} {x : Str} {p pos : Pos} {kws : List Keyword} {tk : TA} {g : List Value → List Value → List Value} {gV : List V → List V → List V}
theorem pe_callN0 (F : FnOk X.prog X.w X.K X.mg X.base CX k f fd ps sp) (room : Room k X.A) (gl : Gl X x) (at_ : X.mg x = some (.ref f)) (keep : PySem.W.keepIn X.K (.ref f) = true)
    (bd : KBn X.K fd ps 0 ks g gV) (pass : Passes CX X E) (kw : PK X kws tk)
    (named : (backToKw pos (keywordEach kws X.env)).all (·.1.isSome) = true := by rfl)
    (names : (backToKw pos (keywordEach kws X.env)).filterMap (·.1) = ks := by rfl)
    (nodebug : (x == ("__debug__" : Str)) = false := by decide)
    (plain : ((backTo pos (starEach [] X.env)).any (·.1) || (backToKw pos (keywordEach kws X.env)).any (·.1.isNone)) = false := by rfl) :
    PE X (.Call (.Name x p) [] kws pos) (tCallN 0 ks.length sp gV E tNil tk) := by
  refine ⟨fun pins s σ H Q I h => ?_⟩
  refine wpAny_Call_Name_kw (ld_glob I gl at_ ?_ nodebug)
  refine PySem.W.callWith_KW0 (h₀ := X.base) I.ok.mod.kin keep named ?_ plain
  refine thn (kw.run pos pins s σ H _ I h) ?_
  intro ws s2 got
  obtain ⟨zs, H2, I2, rz, l1, l2, q2⟩ := got
  refine ⟨I2.kIn, ?_⟩
  rw [names]
  exact run_fnN (us := []) (vs := []) F room bd pass I2 .nil rz rfl l2 q2
end
theorem E_of {H : Hp} {p : Addr} {o : HO} (h : H p = none) : Ex H (upd H p o) := Ex.new h
/-! ### calls of built-ins on values -/
section
variable {K : PySem.W.Frag} {H : Hp}
theorem rc_min {i j : Int} : RC (fun xs H Q => ∃ i j, xs = [V.int i, V.int j] ∧ Q (V.int (if j < i then j else i)) H) [.int i, .int j] H (.int (min i j)) := fun H1 _ Q q =>
  ⟨i, j, rfl, by
    have e : (if j < i then j else i) = min i j := by
      split <;> omega
    rw [e]
    exact q H1 (Ex.refl H1)⟩
theorem rc_max {i j : Int} : RC (fun xs H Q => ∃ i j, xs = [V.int i, V.int j] ∧ Q (V.int (if j > i then j else i)) H) [.int i, .int j] H (.int (max i j)) := fun H1 _ Q q =>
  ⟨i, j, rfl, by
    have e : (if j > i then j else i) = max i j := by
      split <;> omega
    rw [e]
    exact q H1 (Ex.refl H1)⟩
theorem rc_int {i : Int} : RC (fun xs H Q => (∃ i, xs = [V.int i] ∧ Q (V.int i) H) ∨ ∃ k, xs = [V.bl k] ∧ Q (V.int (if k = true then 1 else 0)) H) [.int i] H (.int i) := fun H1 _ _ q =>
  .inl ⟨i, rfl, q H1 (Ex.refl H1)⟩
theorem rc_intB {b : Bool} : RC (fun xs H Q => (∃ i, xs = [V.int i] ∧ Q (V.int i) H) ∨ ∃ k, xs = [V.bl k] ∧ Q (V.int (if k = true then 1 else 0)) H) [.bl b] H (.int (if b = true then 1 else 0)) := fun H1 _ _ q =>
  .inr ⟨b, rfl, q H1 (Ex.refl H1)⟩
theorem rc_lenL {p : Addr} {xs : List V} (h : SqL K H p xs) : RC (fun vs H Q => ∃ p ys, vs = [V.ref p] ∧ (SqL K H p ys ∨ SqT K H p ys) ∧ Q (V.int ys.length) H) [.ref p] H (.int xs.length) := fun H1 e _ q =>
  ⟨p, xs, rfl, .inl (ex_l e h), q H1 (Ex.refl H1)⟩
theorem rc_sum {p : Addr} {ns : List Int} (h : SqL K H p (ns.map V.int)) : RC (fun vs H Q => ∃ (a : Addr) (ns : List Int), vs = [V.ref a] ∧ SqL K H a (ns.map V.int) ∧ Q (V.int ns.sum) H) [.ref p] H (.int ns.sum) := fun H1 e _ q =>
  ⟨p, ns, rfl, ex_l e h, q H1 (Ex.refl H1)⟩
end
/-- the int at a place -/
theorem at_int {ns : List Int} {i : Nat} (h : i < ns.length) : atI (ns.map V.int) (i : Int) = some (.int (at0 ns i)) := by
  refine atI_nat ?_
  rw [List.getElem?_map, List.getElem?_eq_getElem h]
  unfold at0
  rw [List.getD_eq_getElem?_getD, List.getElem?_eq_getElem h]
  rfl
def bitsOf (n : Int) : Int := ((Builtin.Int.intBits (n - 1) : Nat) : Int)
/-! ### readings in short -/
section
variable {σ : L2.St} {H : Hp} {t : TT} {tu tz : TS} {D : Ends} {K : PySem.W.Frag} {ta tb : TE}
/-- an if that is not taken -/
theorem q_skip (h : EvT t σ H false) (k : ∀ H1, Ex H H1 → tz D σ H1) : tSeq (tIfS t tu tNext) tz D σ H := q_when h (fun hb => absurd hb Bool.false_ne_true) (fun _ => k)
theorem s_skip (h : EvT t σ H false) (k : ∀ H1, Ex H H1 → D.nx σ H1) : tIfS t tu tNext D σ H := s_when h (fun hb => absurd hb Bool.false_ne_true) (fun _ => k)
/-- an if that is taken -/
theorem q_take (h : EvT t σ H true) (k : ∀ H1, Ex H H1 → tu { D with nx := tz D } σ H1) : tSeq (tIfS t tu tNext) tz D σ H := q_when h (fun _ => k) (fun hb => nomatch hb)
theorem et_lt {i j : Int} (ha : Ev ta σ H (.int i)) (hb : Ev tb σ H (.int j)) : EvT (tTest (tOp (rI0 fun i j => .bl (decide (i < j))) ta tb)) σ H (decide (i < j)) := et_test (ev_op ha hb rv_I0)
theorem et_le {i j : Int} (ha : Ev ta σ H (.int i)) (hb : Ev tb σ H (.int j)) : EvT (tTest (tOp (rI0 fun i j => .bl (decide (i ≤ j))) ta tb)) σ H (decide (i ≤ j)) := et_test (ev_op ha hb rv_I0)
theorem et_gt {i j : Int} (ha : Ev ta σ H (.int i)) (hb : Ev tb σ H (.int j)) : EvT (tTest (tOp (rI0 fun i j => .bl (decide (j < i))) ta tb)) σ H (decide (j < i)) := et_test (ev_op ha hb rv_I0)
theorem et_ge {i j : Int} (ha : Ev ta σ H (.int i)) (hb : Ev tb σ H (.int j)) : EvT (tTest (tOp (rI0 fun i j => .bl (decide (j ≤ i))) ta tb)) σ H (decide (j ≤ i)) := et_test (ev_op ha hb rv_I0)
theorem et_neI {i j : Int} (ha : Ev ta σ H (.int i)) (hb : Ev tb σ H (.int j)) : EvT (tTest (tOp rNe ta tb)) σ H (!decide (i = j)) := et_test (ev_is (ev_op ha hb (rv_ne rfl)) (by simp))
theorem et_eqI {i j : Int} (ha : Ev ta σ H (.int i)) (hb : Ev tb σ H (.int j)) : EvT (tTest (tOp rEq ta tb)) σ H (decide (i = j)) := et_test (ev_is (ev_op ha hb (rv_eq rfl)) (by simp))
/-- x + y, x - y, x * y, x // y, x % y -/
theorem ev_add {i j : Int} (ha : Ev ta σ H (.int i)) (hb : Ev tb σ H (.int j)) : Ev (tOp (rI0 fun i j => .int (i + j)) ta tb) σ H (.int (i + j)) := ev_op ha hb rv_I0
theorem ev_sub {i j : Int} (ha : Ev ta σ H (.int i)) (hb : Ev tb σ H (.int j)) : Ev (tOp (rI0 fun i j => .int (i - j)) ta tb) σ H (.int (i - j)) := ev_op ha hb rv_I0
theorem ev_mulR {i j : Int} (h1 : -18446744073709551616 < j) (h2 : j < 18446744073709551616) (ha : Ev ta σ H (.int i)) (hb : Ev tb σ H (.int j)) : Ev (tOp (rI CMul fun i j => .int (i * j)) ta tb) σ H (.int (i * j)) := ev_op ha hb (rv_I (Or.inr ⟨by omega, by omega⟩))
theorem ev_mulL {i j : Int} (h1 : -18446744073709551616 < i) (h2 : i < 18446744073709551616) (ha : Ev ta σ H (.int i)) (hb : Ev tb σ H (.int j)) : Ev (tOp (rI CMul fun i j => .int (i * j)) ta tb) σ H (.int (i * j)) := ev_op ha hb (rv_I (Or.inl ⟨by omega, by omega⟩))
theorem ev_mod {i j : Int} (h : 0 < j) (ha : Ev ta σ H (.int i)) (hb : Ev tb σ H (.int j)) : Ev (tOp (rI (fun _ j => 0 < j) fun i j => .int (i % j)) ta tb) σ H (.int (i % j)) := ev_op ha hb (rv_I h)
theorem div_ok {i j : Int} (h : 0 < j) (h2 : j < 18446744073709551616) : CDivW i j := wide_div (b := 64) h (by omega) (by decide) (by decide)
theorem ev_div {i j : Int} (h : 0 < j) (h2 : j < 18446744073709551616) (ha : Ev ta σ H (.int i)) (hb : Ev tb σ H (.int j)) : Ev (tOp (rI CDivW fun i j => .int (i / j)) ta tb) σ H (.int (i / j)) := ev_op ha hb (rv_I (div_ok h h2))
theorem ev_int {i : Int} (ha : Ev ta σ H (.int i)) : Ev (tCB (fun xs H Q => (∃ i, xs = [V.int i] ∧ Q (V.int i) H) ∨ ∃ k, xs = [V.bl k] ∧ Q (V.int (if k = true then 1 else 0)) H) (tCons ta tNil)) σ H (.int i) := ev_cb (ea_cons ha ea_nil) rc_int
theorem ev_intB {b : Bool} (ha : Ev ta σ H (.bl b)) : Ev (tCB (fun xs H Q => (∃ i, xs = [V.int i] ∧ Q (V.int i) H) ∨ ∃ k, xs = [V.bl k] ∧ Q (V.int (if k = true then 1 else 0)) H) (tCons ta tNil)) σ H (.int (if b = true then 1 else 0)) := ev_cb (ea_cons ha ea_nil) rc_intB
/-- xs[i] of ints -/
theorem ev_at {a : Addr} {ns : List Int} {i : Nat} (hs : SqL K H a (ns.map V.int)) (hi : i < ns.length) (ha : Ev ta σ H (.ref a)) (hb : Ev tb σ H (.int (i : Int))) : Ev (tOp (rIxL K) ta tb) σ H (.int (at0 ns i)) := ev_op ha hb (rv_ixL hs (at_int hi))
end
theorem at0_get {ns : List Int} {i : Nat} {x : V} (h : (ns.map V.int)[i]? = some x) : i < ns.length ∧ x = .int (at0 ns i) := by
  rw [List.getElem?_map] at h
  cases e : ns[i]? with
  | none =>
    rw [e] at h
    cases h
  | some y =>
    rw [e] at h
    have hi : i < ns.length := (List.getElem?_eq_some_iff.mp e).1
    refine ⟨hi, ?_⟩
    unfold at0
    rw [List.getD_eq_getElem?_getD, e]
    exact (Option.some.inj h).symm
theorem at0_mem {ns : List Int} {i : Nat} (h : i < ns.length) : at0 ns i ∈ ns := by
  unfold at0
  rw [List.getD_eq_getElem?_getD, List.getElem?_eq_getElem h]
  exact List.getElem_mem h
section
variable {K : PySem.W.Frag}
theorem rc_isi {n : Int} {c : String} {b : Bool} {H : Hp} (h : kitB "int" c = some b) : RC (rIsi K) [.int n, .ty c] H (.bl b) := fun H1 _ _ q =>
  ⟨.int n, .ty c, _, _, b, rfl, .ty c, .base (.int n), kit_ty h, q H1 (Ex.refl H1)⟩
theorem rc_isiS {z : Str} {c : String} {b : Bool} {H : Hp} (h : kitB "str" c = some b) : RC (rIsi K) [.str z, .ty c] H (.bl b) := fun H1 _ _ q =>
  ⟨.str z, .ty c, _, _, b, rfl, .ty c, .base (.str z), kit_ty h, q H1 (Ex.refl H1)⟩
theorem pow_mono {b : Int} (hb : 1 ≤ b) {i j : Nat} (h : i ≤ j) : b ^ i ≤ b ^ j := by
  induction h with
  | refl => exact Int.le_refl _
  | @step k _ ih =>
    have hp : 0 ≤ b ^ k := Int.pow_nonneg (by omega)
    have h2 : b ^ k * 1 ≤ b ^ k * b := Int.mul_le_mul_of_nonneg_left hb hp
    rw [Int.mul_one] at h2
    rw [Int.pow_succ]
    omega
theorem pow_pos1 {b : Int} (hb : 1 ≤ b) (i : Nat) : 1 ≤ b ^ i := by
  have h := pow_mono hb (Nat.zero_le i)
  rw [Int.pow_zero] at h
  exact h
theorem log2_is {n i : Nat} (h1 : 2 ^ i ≤ n) (h2 : n < 2 ^ (i + 1)) : n.log2 = i := by
  have h0 : n ≠ 0 := by
    have := Nat.pow_pos (n := i) (show 0 < 2 by decide)
    omega
  have a := (Nat.log2_lt h0).mpr h2
  have b := (Nat.le_log2 h0).mpr h1
  omega
theorem bits_is {m : Int} {i : Nat} (h1 : 1 ≤ m) (h2 : m ≤ 2 ^ i) (h3 : i = 0 ∨ ∃ j, i = j + 1 ∧ (2 : Int) ^ j < m) : bitsOf m = (i : Int) := by
  unfold bitsOf Builtin.Int.intBits
  obtain ⟨n, hn⟩ := Int.eq_ofNat_of_zero_le (show 0 ≤ m - 1 by omega)
  rw [hn]
  have cast : ∀ k : Nat, ((2 : Int) ^ k) = ((2 ^ k : Nat) : Int) := fun k => by
    rw [Int.natCast_pow]
    rfl
  rw [cast] at h2
  have hlt : n < 2 ^ i := by omega
  rcases h3 with rfl | ⟨j, rfl, h3⟩
  · have hz : n = 0 := by
      rw [Nat.pow_zero] at hlt
      omega
    subst hz
    rfl
  · rw [cast] at h3
    have hge : 2 ^ j ≤ n := by omega
    have h0 : n ≠ 0 := by
      have := Nat.pow_pos (n := j) (show 0 < 2 by decide)
      omega
    rw [if_neg (by simpa using h0)]
    show (((n : Int).natAbs.log2 + 1 : Nat) : Int) = ((j + 1 : Nat) : Int)
    rw [Int.natAbs_natCast, log2_is hge hlt]
theorem bits_nn (m : Int) : 0 ≤ bitsOf m := Int.natCast_nonneg _
theorem ev_atI {ta tb : TE} {σ : L2.St} {H : Hp} {a : Addr} {ns : List Int} {i : Nat} {z : Int} (hs : SqL K H a (ns.map V.int)) (hi : i < ns.length) (hz : z = (i : Int)) (ha : Ev ta σ H (.ref a)) (hb : Ev tb σ H (.int z)) : Ev (tOp (rIxL K) ta tb) σ H (.int (at0 ns i)) := by
  subst hz
  exact ev_at hs hi ha hb
theorem ev_callN0 {tk : TA} {σ : L2.St} {H : Hp} {sp : Sp} {n : Nat} {gV : List V → List V → List V} {E : XK} {zs : List V} {z : V} (h : EvA tk σ H zs) (hn : zs.length = n) (hs : SpV sp (gV [] zs) H z) : Ev (tCallN 0 n sp gV E tNil tk) σ H z := fun H1 e Q q =>
  h H1 e _ fun H2 e2 => ⟨rfl, hn, hs H2 (e.trans e2) Q (fun H3 e3 => q H3 (e2.trans e3)) E⟩
end
end Ver
namespace Ver
open PySem PySem.Spec PyProof.Rows L2 Evl
/-! ### enumerate(xs, start=k), xs a list or a tuple -/
section
variable {M : Model} {A : Around} {E : Value → Shared → Prop} {s : Shared} {env : Env}
theorem type_with_kw {pos : Pos} {T : String} {args : List (Bool × Sem Value)} {kw : List (Option Str × Sem Value)} {Q : Value → Shared → Prop}
    (h1 : args.any (·.1) = false) (h2 : kw.any (·.1.isNone) = false)
    (h : wpAny M A (evalArgs (.type T) true args kw) (fun a s1 => wpAny M A (call (.type T) a.pos a.kw) Q E s1) E s) :
    wpAny M A (callWith pos (.type T) [] args kw) Q E s := by
  unfold callWith
  refine wpAny_bind (wpAny_holding ?_)
  refine wpAny_mono h (fun a s1 got => ?_) (fun _ _ x => x)
  refine wpAny_bind (wpAny_standAt ?_)
  simp only [h1, h2, Bool.or_false]
  refine wpAny_bind (wpAny_pure ?_)
  refine wpAny_bind (wpAny_mono got (fun r s2 hr => ?_) (fun _ _ x => x))
  exact wpAny_bind (wpAny_holding (wpAny_point (wpAny_pure hr)))
end
/-- the list at a, its items in new pairs, counted from k on -/
def IteL (K : PySem.W.Frag) (k : Int) (a : Addr) : It where
  go := fun i H => ∃ (xs : List V) (x : V), SqL K H a xs ∧ xs[i]? = some x
  yld := fun i H v H' => ∃ T x, v = .ref T ∧ H T = none ∧ H' = upd H T (.tup [.int (k + (i : Int)), x]) ∧ ∀ xs, SqL K H a xs → xs[i]? = some x
  stop := fun i H => ∃ xs : List V, SqL K H a xs ∧ xs.length = i
def IteT (K : PySem.W.Frag) (k : Int) (a : Addr) : It where
  go := fun i H => ∃ (xs : List V) (x : V), SqT K H a xs ∧ xs[i]? = some x
  yld := fun i H v H' => ∃ T x, v = .ref T ∧ H T = none ∧ H' = upd H T (.tup [.int (k + (i : Int)), x]) ∧ ∀ xs, SqT K H a xs → xs[i]? = some x
  stop := fun i H => ∃ xs : List V, SqT K H a xs ∧ xs.length = i
theorem two_mem {b e i : Addr} (h : b ∈ [e, i]) : b = e ∨ b = i := by simpa using h
section
variable {P : Program} {w : World} {K : PySem.W.Frag} {elts : List Expr} {kk : Nat} {tpos : Pos}
theorem turnL (k : Int) (a e it : Addr) : Turn P w K (.Tuple elts kk tpos) (IteL K k a) [e, it] e
    (fun i h => (∃ old, IsEnum h e it (k + (i : Int)) old) ∧ h.IsListIter it a i ∧ e ≠ it ∧ a ≠ it ∧ a ≠ e) where
  mem := List.mem_cons_self ..
  obj := fun i h st b hb => by
    obtain ⟨⟨old, he⟩, ⟨o, ho, _, hd⟩, _⟩ := st
    rcases two_mem hb with z | z
    · subst z
      exact ⟨_, he, fun v q => nomatch q⟩
    · subst z
      refine ⟨o, ho, fun v q => ?_⟩
      rw [hd] at q
      cases q
  keep := fun i h h' st kp => by
    obtain ⟨⟨old, he⟩, hi, r⟩ := st
    exact ⟨⟨old, kp e (by simp) _ he⟩, hi.at fun o q => kp it (by simp) o q, r⟩
  item := by
    intro X hP hw hK hc i pins s σ H E I hf st hg
    subst hP hw hK
    obtain ⟨⟨old, he⟩, hit, hei, hai, hae⟩ := st
    obtain ⟨xs, x, hq, hx⟩ := hg
    obtain ⟨its, rv, p, hz⟩ := I.list hq
    obtain ⟨u, hu, ru⟩ := rv.get hx
    have hil : i < its.toArray.size := by
      have := (List.getElem?_eq_some_iff.mp hu).1
      simpa using this
    have D := Draws.list (prog := X.prog) (w := X.w) (A := X.A.in1) (I.ok.hd hc) it a hai its.toArray
    have lte : e < s.heap.objs.size := Heap.lt_size he
    have lti : it < s.heap.objs.size := by
      obtain ⟨_, q, _⟩ := hit
      exact Heap.lt_size q
    refine wpAny_pyNext_enum_itemC D he ⟨hit, p.isList⟩ hil hei (by simp [hei, hae.symm]) ?_
    intro y h' tk hy ho hst hT hsz keep
    have eu : y = u := by
      have h2 : its.toArray[i]? = some u := by simpa using hu
      rw [h2] at hy
      exact (Option.some.inj hy).symm
    subst eu
    refine ⟨_, rfl, wpAny_letOwnedTupleGo_enum (s := { s with heap := h', toks := tk + 1 }) ho ?_⟩
    intro h2 he2 sb
    have t2 : h2.get? s.heap.objs.size = some { cls := .type "tuple", data := .seq #[.int (k + (i : Int)) tk, y] } := (sb.2 _ (Nat.ne_of_gt lte)).trans hT
    have new : ObjOk X.prog X.w (upd H s.heap.objs.size (.tup [.int (k + (i : Int)), x])) h2 s.heap.objs.size (.tup [.int (k + (i : Int)), x]) :=
      ⟨(by show 2 ≤ sizeLine; decide), [.int (k + (i : Int)) tk, y], .cons ⟨_, rfl⟩ (.cons ru .nil), ⟨_, t2, rfl, _, rfl⟩⟩
    have I1 : Inv X pins σ (upd H s.heap.objs.size (.tup [.int (k + (i : Int)), x])) { s with heap := h2, toks := tk + 1 } := by
      refine I.turnedNew (ch := [e, it]) (fun b ob nb q => ?_) hf (Nat.le_refl _) new
      have n1 : b ≠ e := fun z => nb (by simp [z])
      have n2 : b ≠ it := fun z => nb (by simp [z])
      exact (sb.2 b n1).trans (keep b ob n1 n2 q)
    refine ⟨.ref s.heap.objs.size, _, I1, rfl, ⟨_, x, rfl, I.hok.fresh (Nat.le_refl _), rfl, fun ys hy2 => ?_⟩, ⟨⟨y, ?_⟩, hst.1.at fun o q => (sb.2 it (Ne.symm hei)).trans q, hei, hai, hae⟩, fun b hb => ?_⟩
    · rw [I.list_inj hy2 hq]
      exact hx
    · have e1 : k + ((i + 1 : Nat) : Int) = k + (i : Int) + 1 := by omega
      rw [e1]
      exact he2
    · have lb : b < s.heap.objs.size := by
        rcases two_mem hb with z | z
        · rw [z]
          exact lte
        · rw [z]
          exact lti
      rw [upd_ne (Nat.ne_of_lt lb)]
      exact (hf b hb).1
  done := by
    intro X hP hw hK hc i pins s σ H E I hf st hg
    subst hP hw hK
    obtain ⟨⟨old, he⟩, hit, hei, hai, hae⟩ := st
    obtain ⟨xs, hq, hx⟩ := hg
    obtain ⟨its, rv, p, hz⟩ := I.list hq
    obtain ⟨f0, f1, f2, f3, f4, f5⟩ := hf it (by simp)
    have hl := rv.length
    have D := Draws.list (prog := X.prog) (w := X.w) (A := X.A.in1) (I.ok.hd hc) it a hai its.toArray
    have c : i = its.toArray.size := by
      simp
      omega
    subst c
    exact wpAny_pyNext_enum_endD D he ⟨hit, p.isList⟩ fun h' eb => ⟨rfl, I.turned (t' := s.toks) (fun b o hb q => eb b o hb q) f0 f1 f3 f4 f5⟩
  self := fun A i s Q E st h => by
    obtain ⟨⟨_, he⟩, _⟩ := st
    exact wpAny_pyIter_enum he h
theorem turnT (k : Int) (a e it : Addr) : Turn P w K (.Tuple elts kk tpos) (IteT K k a) [e, it] e
    (fun i h => (∃ old, IsEnum h e it (k + (i : Int)) old) ∧ h.IsTupleIter it a i ∧ e ≠ it ∧ a ≠ it ∧ a ≠ e) where
  mem := List.mem_cons_self ..
  obj := fun i h st b hb => by
    obtain ⟨⟨old, he⟩, ⟨o, ho, _, hd⟩, _⟩ := st
    rcases two_mem hb with z | z
    · subst z
      exact ⟨_, he, fun v q => nomatch q⟩
    · subst z
      refine ⟨o, ho, fun v q => ?_⟩
      rw [hd] at q
      cases q
  keep := fun i h h' st kp => by
    obtain ⟨⟨old, he⟩, hi, r⟩ := st
    exact ⟨⟨old, kp e (by simp) _ he⟩, hi.at fun o q => kp it (by simp) o q, r⟩
  item := by
    intro X hP hw hK hc i pins s σ H E I hf st hg
    subst hP hw hK
    obtain ⟨⟨old, he⟩, hit, hei, hai, hae⟩ := st
    obtain ⟨xs, x, hq, hx⟩ := hg
    obtain ⟨its, rv, p, hz⟩ := I.tuple hq
    obtain ⟨u, hu, ru⟩ := rv.get hx
    have hil : i < its.toArray.size := by
      have := (List.getElem?_eq_some_iff.mp hu).1
      simpa using this
    have D := Draws.tuple (prog := X.prog) (w := X.w) (A := X.A.in1) (I.ok.hd hc) it a hai its.toArray
    have lte : e < s.heap.objs.size := Heap.lt_size he
    have lti : it < s.heap.objs.size := by
      obtain ⟨_, q, _⟩ := hit
      exact Heap.lt_size q
    refine wpAny_pyNext_enum_itemC D he ⟨hit, (show s.heap.IsTuple a its.toArray from p)⟩ hil hei (by simp [hei, hae.symm]) ?_
    intro y h' tk hy ho hst hT hsz keep
    have eu : y = u := by
      have h2 : its.toArray[i]? = some u := by simpa using hu
      rw [h2] at hy
      exact (Option.some.inj hy).symm
    subst eu
    refine ⟨_, rfl, wpAny_letOwnedTupleGo_enum (s := { s with heap := h', toks := tk + 1 }) ho ?_⟩
    intro h2 he2 sb
    have t2 : h2.get? s.heap.objs.size = some { cls := .type "tuple", data := .seq #[.int (k + (i : Int)) tk, y] } := (sb.2 _ (Nat.ne_of_gt lte)).trans hT
    have new : ObjOk X.prog X.w (upd H s.heap.objs.size (.tup [.int (k + (i : Int)), x])) h2 s.heap.objs.size (.tup [.int (k + (i : Int)), x]) :=
      ⟨(by show 2 ≤ sizeLine; decide), [.int (k + (i : Int)) tk, y], .cons ⟨_, rfl⟩ (.cons ru .nil), ⟨_, t2, rfl, _, rfl⟩⟩
    have I1 : Inv X pins σ (upd H s.heap.objs.size (.tup [.int (k + (i : Int)), x])) { s with heap := h2, toks := tk + 1 } := by
      refine I.turnedNew (ch := [e, it]) (fun b ob nb q => ?_) hf (Nat.le_refl _) new
      have n1 : b ≠ e := fun z => nb (by simp [z])
      have n2 : b ≠ it := fun z => nb (by simp [z])
      exact (sb.2 b n1).trans (keep b ob n1 n2 q)
    refine ⟨.ref s.heap.objs.size, _, I1, rfl, ⟨_, x, rfl, I.hok.fresh (Nat.le_refl _), rfl, fun ys hy2 => ?_⟩, ⟨⟨y, ?_⟩, hst.1.at fun o q => (sb.2 it (Ne.symm hei)).trans q, hei, hai, hae⟩, fun b hb => ?_⟩
    · rw [I.tuple_inj hy2 hq]
      exact hx
    · have e1 : k + ((i + 1 : Nat) : Int) = k + (i : Int) + 1 := by omega
      rw [e1]
      exact he2
    · have lb : b < s.heap.objs.size := by
        rcases two_mem hb with z | z
        · rw [z]
          exact lte
        · rw [z]
          exact lti
      rw [upd_ne (Nat.ne_of_lt lb)]
      exact (hf b hb).1
  done := by
    intro X hP hw hK hc i pins s σ H E I hf st hg
    subst hP hw hK
    obtain ⟨⟨old, he⟩, hit, hei, hai, hae⟩ := st
    obtain ⟨xs, hq, hx⟩ := hg
    obtain ⟨its, rv, p, hz⟩ := I.tuple hq
    obtain ⟨f0, f1, f2, f3, f4, f5⟩ := hf it (by simp)
    have hl := rv.length
    have D := Draws.tuple (prog := X.prog) (w := X.w) (A := X.A.in1) (I.ok.hd hc) it a hai its.toArray
    have c : i = its.toArray.size := by
      simp
      omega
    subst c
    exact wpAny_pyNext_enum_endD D he ⟨hit, (show s.heap.IsTuple a its.toArray from p)⟩ fun h' eb => ⟨rfl, I.turned (t' := s.toks) (fun b o hb q => eb b o hb q) f0 f1 f3 f4 f5⟩
  self := fun A i s Q E st h => by
    obtain ⟨⟨_, he⟩, _⟩ := st
    exact wpAny_pyIter_enum he h
/-- what enumerate(xs, start=k) walks -/
def iEnumK (K : PySem.W.Frag) (ta tk : TA) : TI := fun σ H R => ta σ H fun vs H1 => tk σ H1 fun zs H2 => ∃ (a : Addr) (k : Int), vs = [.ref a] ∧ zs = [.int k] ∧ (0 ≤ k ∧ k ≤ 1000) ∧
  ((∃ xs, SqL K H2 a xs ∧ R (IteL K k a) H2) ∨ (∃ xs, SqT K H2 a xs ∧ R (IteT K k a) H2))
theorem pi_enumK {X : Cx} {e ke : Expr} {ta tk : TA} {p pos tpos kpos : Pos} {elts : List Expr} {kk : Nat} (gl : Gl X "enumerate") (no : X.mg "enumerate" = none) (ha : PA X [e] ta) (hk : PK X [⟨some (Str.ofString "start"), ke, kpos⟩] tk)
    (h1 : backTo pos (starEach [e] X.env) = (false, eval e X.env) :: backTo pos (starEach [] X.env) := by rfl) (h2 : (backTo pos (starEach [e] X.env)).any (·.1) = false := by rfl)
    (h3 : (backToKw pos (keywordEach [⟨some (Str.ofString "start"), ke, kpos⟩] X.env)).all (·.1.isSome) = true := by rfl)
    (h4 : (backToKw pos (keywordEach [⟨some (Str.ofString "start"), ke, kpos⟩] X.env)).any (·.1.isNone) = false := by rfl)
    (h5 : (backToKw pos (keywordEach [⟨some (Str.ofString "start"), ke, kpos⟩] X.env)).filterMap (·.1) = [Str.ofString "start"] := by rfl) :
    PI X (.Tuple elts kk tpos) (.Call (.Name "enumerate" p) [e] [⟨some (Str.ofString "start"), ke, kpos⟩] pos) (iEnumK X.K ta tk) := by
  refine ⟨fun pins s σ H R I h => ?_⟩
  refine wpAny_Call_Name_kw (ld_blt I gl no boot_enumerate ?_ (by decide) (by decide))
  refine type_with_kw h2 h4 ?_
  have run := ha.run pos pins s σ H _ I h
  rw [h1] at run ⊢
  refine evalArgs_kwB h3 (thn run ?_)
  intro us s1 got
  obtain ⟨vs, H1, I1, r1, q1⟩ := got
  refine thn (hk.run pos pins s1 σ H1 _ I1 q1) ?_
  intro ws s2 got2
  obtain ⟨zs, H2, I2, r2, a, k, rfl, rfl, hkb, q2⟩ := got2
  rw [h5]
  obtain ⟨u, rfl, ru⟩ := vals1 r1
  obtain ⟨v, rfl, rv⟩ := vals1 r2
  cases (show u = Value.ref a from ru)
  obtain ⟨t, rfl⟩ := rv
  have fin : ∀ (h' : Heap) (J : It) (tn : Nat → Heap → Prop), (∀ b o, s2.heap.get? b = some o → h'.get? b = some o) → Turn X.prog X.w X.K (.Tuple elts kk tpos) J [s2.heap.objs.size + 1, s2.heap.objs.size] (s2.heap.objs.size + 1) tn → tn 0 h' → R J H2 →
      PIE X pins σ (.Tuple elts kk tpos) R (.ref (s2.heap.objs.size + 1)) { s2 with heap := h' } := by
    intro h' J tn keep tr t0 q
    have I3 : Inv X pins σ H2 { s2 with heap := h' } := I2.kept (t' := s2.toks) keep
    refine ⟨s2.heap.objs.size + 1, [s2.heap.objs.size + 1, s2.heap.objs.size], tn, J, H2, rfl, I3, tr, t0, fun b hb => ?_, q⟩
    have le : s2.heap.objs.size ≤ b := by
      rcases two_mem hb with z | z
      · rw [z]
        exact Nat.le_add_right _ _
      · rw [z]
        exact Nat.le_refl _
    exact I2.fpOk le (I2.hok.fresh le)
  have k0 : k + ((0 : Nat) : Int) = k := by simp
  rcases q2 with ⟨xs, hs, q⟩ | ⟨xs, hs, q⟩
  · obtain ⟨its, _, p', _⟩ := I2.list hs
    have la : a < s2.heap.objs.size := p'.lt
    refine enum_begins_start (begins_list a its.toArray) p'.isList (by omega) (by omega) fun h' he hit hsz keep => wpAny_pyIter_enum he ?_
    exact fin h' _ _ keep (turnL k a _ _) ⟨⟨.none, by rw [k0]; exact he⟩, ⟨_, hit, rfl, rfl⟩, Nat.succ_ne_self _, Nat.ne_of_lt la, Nat.ne_of_lt (Nat.lt_succ_of_lt la)⟩ q
  · obtain ⟨its, _, p', _⟩ := I2.tuple hs
    have la : a < s2.heap.objs.size := p'.lt
    refine enum_begins_start (begins_tuple a its.toArray) (show s2.heap.IsTuple a its.toArray from p') (by omega) (by omega) fun h' he hit hsz keep => wpAny_pyIter_enum he ?_
    exact fin h' _ _ keep (turnT k a _ _) ⟨⟨.none, by rw [k0]; exact he⟩, ⟨_, hit, rfl, rfl⟩, Nat.succ_ne_self _, Nat.ne_of_lt la, Nat.ne_of_lt (Nat.lt_succ_of_lt la)⟩ q
end
end Ver
namespace Ver
open PySem PySem.Spec PyProof.Rows L2 Evl
/-! ### zip of two texts, in new pairs -/
def Izs (x y : Str) : It where
  go := fun i H => i < x.cps.size ∧ i < y.cps.size
  yld := fun i H v H' => ∃ T c d, v = .ref T ∧ H T = none ∧ H' = upd H T (.tup [.str ⟨#[c]⟩, .str ⟨#[d]⟩]) ∧ x.cps[i]? = some c ∧ y.cps[i]? = some d
  stop := fun i H => i ≤ x.cps.size ∧ i ≤ y.cps.size ∧ (i = x.cps.size ∨ i = y.cps.size)
section
variable {P : Program} {w : World} {K : PySem.W.Frag} {elts : List Expr} {kk : Nat} {tpos : Pos}
theorem five_mem {c z a b d e : Addr} (h : c ∈ [z, a, b, d, e]) : c = z ∨ c = a ∨ c = b ∨ c = d ∨ c = e := by simpa using h
theorem si_at {h h' : Heap} {i : Addr} {n : String} {x : Str} {t : Tok} {k : Nat} (s : h.IsStrIter i n x t k) (f : ∀ o, h.get? i = some o → h'.get? i = some o) : h'.IsStrIter i n x t k := by
  obtain ⟨o, e, r⟩ := s
  exact ⟨o, f o e, r⟩
theorem turnZs (x y : Str) (t u : Tok) (z TI TO i1 i2 : Addr) (S : ZipSep2 z TI TO i1 i2 [i1] [i2]) : Turn P w K (.Tuple elts kk tpos) (Izs x y) [z, TI, TO, i1, i2] z
    (fun i h => IsZip h z TI TO .none ∧ IsTupOf2 h TI (.ref i1) (.ref i2) ∧ (∃ a1 a2, IsTupOf2 h TO a1 a2) ∧ h.IsStrIter i1 (strIterType x) x t i ∧ h.IsStrIter i2 (strIterType y) y u i) where
  mem := List.mem_cons_self ..
  obj := fun i h st c hc => by
    obtain ⟨hz, hTI, ⟨a1, a2, hTO⟩, ⟨o1, e1, _, d1⟩, ⟨o2, e2, _, d2⟩⟩ := st
    rcases five_mem hc with q | q | q | q | q
    · rw [q]; exact ⟨_, hz, fun v q => nomatch q⟩
    · rw [q]; exact ⟨_, hTI, fun v q => nomatch q⟩
    · rw [q]; exact ⟨_, hTO, fun v q => nomatch q⟩
    · rw [q]; exact ⟨o1, e1, fun v q => by rw [d1] at q; cases q⟩
    · rw [q]; exact ⟨o2, e2, fun v q => by rw [d2] at q; cases q⟩
  keep := fun i h h' st k => by
    obtain ⟨hz, hTI, ⟨a1, a2, hTO⟩, h1, h2⟩ := st
    exact ⟨k z (by simp) _ hz, k TI (by simp) _ hTI, ⟨a1, a2, k TO (by simp) _ hTO⟩, si_at h1 fun o q => k i1 (by simp) o q, si_at h2 fun o q => k i2 (by simp) o q⟩
  item := by
    intro X hP hw hK hc i pins s σ H E I hf st hg
    subst hP hw hK
    obtain ⟨hz, hTI, ⟨a1, a2, hTO⟩, h1, h2⟩ := st
    have D1 := Draws.text (prog := X.prog) (w := X.w) (A := X.A.in1) (I.ok.hd hc) i1 x t
    have D2 := Draws.text (prog := X.prog) (w := X.w) (A := X.A.in1) (I.ok.hd hc) i2 y u
    have hzl : z < s.heap.objs.size := Heap.lt_size hz
    have l1 : i1 < s.heap.objs.size := by
      obtain ⟨o, e, _⟩ := h1
      exact Heap.lt_size e
    have l2 : i2 < s.heap.objs.size := by
      obtain ⟨o, e, _⟩ := h2
      exact Heap.lt_size e
    refine wpAny_pyNext_zipD2_item S D1 D2 hz hTI hTO h1 h2 hg.1 hg.2 fun y1 y2 h' tk ⟨c, u1, hc1, ev1⟩ ⟨d, u2, hd1, ev2⟩ b1 b2 s1 s2 hT hsz hk => ?_
    subst ev1
    subst ev2
    refine ⟨_, rfl, wpAny_letOwnedTupleGo_zip (s := { s with heap := h', toks := tk }) b1 fun h'' z'' sb => ?_⟩
    have hT2 : h''.get? s.heap.objs.size = some { cls := .type "tuple", data := .seq #[.str ⟨#[c]⟩ u1, .str ⟨#[d]⟩ u2] } := (sb.2 _ (Nat.ne_of_gt hzl)).trans hT
    have new : ObjOk X.prog X.w (upd H s.heap.objs.size (.tup [.str ⟨#[c]⟩, .str ⟨#[d]⟩])) h'' s.heap.objs.size (.tup [.str ⟨#[c]⟩, .str ⟨#[d]⟩]) :=
      ⟨(by show 2 ≤ sizeLine; decide), [.str ⟨#[c]⟩ u1, .str ⟨#[d]⟩ u2], .cons ⟨_, rfl⟩ (.cons ⟨_, rfl⟩ .nil), ⟨_, hT2, rfl, _, rfl⟩⟩
    have I1 : Inv X pins σ (upd H s.heap.objs.size (.tup [.str ⟨#[c]⟩, .str ⟨#[d]⟩])) { s with heap := h'', toks := tk } := by
      refine I.turnedNew (ch := [z, TI, TO, i1, i2]) (fun b ob nb q => ?_) hf (Nat.le_refl _) new
      exact (sb.2 b (fun q' => nb (by simp [q']))).trans (hk b ob (fun q' => nb (by simp [q'])) (fun q' => nb (by simp [q'])) (fun q' => nb (by simp [q'])) (fun q' => nb (by simp [q'])) q)
    refine ⟨.ref s.heap.objs.size, _, I1, rfl, ⟨_, c, d, rfl, I.hok.fresh (Nat.le_refl _), rfl, hc1, hd1⟩, ⟨z'', ?_, ⟨.str ⟨#[c]⟩ u1, .str ⟨#[d]⟩ u2, ?_⟩, ?_, ?_⟩, fun b hb => ?_⟩
    · exact (sb.2 _ S.TIz).trans (hk _ _ S.TIz S.TITO S.TIi1 S.TIi2 hTI)
    · exact (sb.2 _ S.TOz).trans b2
    · exact si_at s1 fun o q => (sb.2 _ S.zi1.symm).trans q
    · exact si_at s2 fun o q => (sb.2 _ S.zi2.symm).trans q
    · have hlt : b < s.heap.objs.size := by
        rcases five_mem hb with q | q | q | q | q
        · rw [q]; exact hzl
        · rw [q]; exact Heap.lt_size hTI
        · rw [q]; exact Heap.lt_size hTO
        · rw [q]; exact l1
        · rw [q]; exact l2
      rw [upd_ne (Nat.ne_of_lt hlt)]
      exact (hf b hb).1
  done := by
    intro X hP hw hK hc i pins s σ H E I hf st hg
    subst hP hw hK
    obtain ⟨hz, hTI, ⟨a1, a2, hTO⟩, h1, h2⟩ := st
    have D1 := Draws.text (prog := X.prog) (w := X.w) (A := X.A.in1) (I.ok.hd hc) i1 x t
    have D2 := Draws.text (prog := X.prog) (w := X.w) (A := X.A.in1) (I.ok.hd hc) i2 y u
    exact wpAny_pyNext_zipD2_end S D1 D2 hz hTI hTO h1 h2 hg.1 hg.2.1 hg.2.2 fun h' tk hk => ⟨rfl, I.turnedL (t' := tk) (ch := [z, TI, TO, i1, i2]) (fun c o hb q =>
      hk c o (fun q' => hb (by simp [q'])) (fun q' => hb (by simp [q'])) (fun q' => hb (by simp [q'])) (fun q' => hb (by simp [q'])) q) hf⟩
  self := fun A i s Q E st h => wpAny_pyIter_zip st.1 h
theorem ne_nat {a b : Nat} (h : a ≠ b) : (show Addr from a) ≠ (show Addr from b) := h
theorem sep_n (n : Nat) : ZipSep2 (n + 4) (n + 2) (n + 3) n (n + 1) [n] [n + 1] :=
  ⟨ne_nat (by omega), ne_nat (by omega), ne_nat (by omega), ne_nat (by omega), List.mem_singleton.mpr rfl, fun h => absurd (List.mem_singleton.mp h) (ne_nat (by omega)), fun h => absurd (List.mem_singleton.mp h) (ne_nat (by omega)),
    ne_nat (by omega), List.mem_singleton.mpr rfl, fun h => absurd (List.mem_singleton.mp h) (ne_nat (by omega)), fun h => absurd (List.mem_singleton.mp h) (ne_nat (by omega)), fun h => absurd (List.mem_singleton.mp h) (ne_nat (by omega)), fun h => absurd (List.mem_singleton.mp h) (ne_nat (by omega))⟩
def iZipS (ta : TA) : TI := fun σ H R => ta σ H fun vs H1 => ∃ x y, vs = [.str x, .str y] ∧ R (Izs x y) H1
theorem pi_zipS {X : Cx} {e e2 : Expr} {ta : TA} {p pos tpos : Pos} {elts : List Expr} {kk : Nat} (hg : Gl X "zip") (hm : X.mg "zip" = none) (ha : PA X [e, e2] ta)
    (hs : starEach [e, e2] X.env = (false, eval e X.env) :: starEach [e2] X.env := by rfl) (hpl : (backTo pos (starEach [e2] X.env)).any (·.1) = false := by rfl) :
    PI X (.Tuple elts kk tpos) (.Call (.Name "zip" p) [e, e2] [] pos) (iZipS ta) := by
  refine ⟨fun pins s σ H R I h => ?_⟩
  refine Call_ (ld_blt I hg hm PyProof.Rows.boot_zip (PyProof.Rows.callWith_type1 (thn (ha.run pos pins s σ H _ I h) fun us s1 ⟨vs, H1, I1, r1, q1⟩ => ?_) hs hpl))
  obtain ⟨x, y, ex, q⟩ := q1
  subst ex
  cases r1 with
  | cons r rr =>
    cases rr with
    | cons r' rr =>
      cases rr
      obtain ⟨t, rfl⟩ := r
      obtain ⟨u, rfl⟩ := r'
      refine zip_begins2 (begins_text x t) (begins_text y u) trivial trivial fun h' hz hTI hTO g1 g2 hsz hk => wpAny_pyIter_zip hz ?_
      have I2 : Inv X pins σ H1 { s1 with heap := h' } := I1.kept (t' := s1.toks) hk
      have S := sep_n s1.heap.objs.size
      refine ⟨s1.heap.objs.size + 4, [s1.heap.objs.size + 4, s1.heap.objs.size + 2, s1.heap.objs.size + 3, s1.heap.objs.size, s1.heap.objs.size + 1], _, _, H1, rfl, I2, turnZs x y t u _ _ _ _ _ S, ⟨hz, hTI, ⟨_, _, hTO⟩, ⟨_, g1, rfl, rfl⟩, ⟨_, g2, rfl, rfl⟩⟩, fun c hcm => ?_, q⟩
      have hle : s1.heap.objs.size ≤ c := by
        rcases five_mem hcm with z | z | z | z | z
        · rw [z]; exact Nat.le_add_right _ _
        · rw [z]; exact Nat.le_add_right _ _
        · rw [z]; exact Nat.le_add_right _ _
        · rw [z]; exact Nat.le_refl _
        · rw [z]; exact Nat.le_add_right _ _
      exact I1.fpOk hle (I1.hok.fresh hle)
end
end Ver
namespace Ver
open PySem PySem.Spec PyProof.Rows L2 Evl
section
open AutoSeq1 (wpAny_loadPart')
theorem meets_enumerate_newT (l : Addr) (items : Array Value) (n : Nat) (dct : Option Addr) (sl : Array (Option Value)) :
    Meets (Builtin.«enumerate.__new__» ⟨[.type "enumerate", .ref l], []⟩) (fun _ R s => s.heap.get? l = some { cls := .type "tuple", dict := dct, data := .seq items n, slots := sl } ∧
      R (.ok (.ret (.ref (s.heap.push { cls := .type "tuple_iterator", data := .fields #[.ref l, .int 0 0] }).objs.size)))
        { s with heap := (s.heap.push { cls := .type "tuple_iterator", data := .fields #[.ref l, .int 0 0] }).push { cls := .type "enumerate", data := .fields #[.none, .bool false, .ref s.heap.objs.size, rawInt 0, .none, .none] } }) :=
  .of_wp fun prog w A R s h => by
    obtain ⟨hp, g, d, tk, os⟩ := s; obtain ⟨hl, h⟩ := h
    have hsub := sub_enumerate
    have hL : Heap.IsTuple (Shared.heap ⟨hp, g, d, tk, os⟩) l items := ⟨_, hl, rfl, n, rfl⟩
    wp_walk using wpAny_loadPart' hl
    refine wpAny_stack_any fun st => wpAny_pure ?_
    split
    · rename_i c _ _ _ _ _
      cases (c == Value.type "enumerate")
      · wp_walk using wpAny_loadPart' hl, wpAny_pyIter_tuple hL
        exact ⟨_, rfl, h⟩
      · wp_walk using wpAny_loadPart' hl, wpAny_pyIter_tuple hL
        exact ⟨_, rfl, h⟩
    · wp_walk using wpAny_loadPart' hl, wpAny_pyIter_tuple hL
      exact ⟨_, rfl, h⟩
end
section
variable {prog : Program} {w : World} {A : Around} {E : Value → Shared → Prop} {s : Shared}
theorem call_enumerate_tuple {l : Addr} {items : Array Value} {Q : Value → Shared → Prop} (hL : s.heap.IsTuple l items)
    (h : ∀ h', IsEnum h' (s.heap.objs.size + 1) s.heap.objs.size 0 .none → h'.get? s.heap.objs.size = some { cls := .type "tuple_iterator", data := .fields #[.ref l, .int 0 0] } → h'.objs.size = s.heap.objs.size + 2 →
      (∀ b o, s.heap.get? b = some o → h'.get? b = some o) → Q (.ref (s.heap.objs.size + 1)) { s with heap := h' }) :
    wpAny (model prog w) A (call (.type "enumerate") [.ref l]) Q E s := by
  obtain ⟨⟨c, dct, dt, sl⟩, hl, hc, n, hd⟩ := hL
  replace hc : c = .type "tuple" := hc
  replace hd : dt = .seq items n := hd
  subst hc hd
  refine callType_new F.called_enumerate (by decide) (F.typeCall_enumerate_1 _) (F.newCall_enumerate_1 _) (fun obj => F.args_object_init_2 obj _) F.entry_enumerate_new
    (meets_enumerate_newT l items n dct sl) ⟨hl, ?_⟩
  have hz : (s.heap.push { cls := .type "tuple_iterator", data := .fields #[.ref l, .int 0 0] }).objs.size = s.heap.objs.size + 1 := Heap.size_push ..
  show _ ∧ _
  rw [hz]
  have he : IsEnum ((s.heap.push { cls := .type "tuple_iterator", data := .fields #[.ref l, .int 0 0] }).push
      { cls := .type "enumerate", data := .fields #[.none, .bool false, .ref s.heap.objs.size, rawInt 0, .none, .none] }) (s.heap.objs.size + 1) s.heap.objs.size 0 .none := by
    have := Heap.get?_push_size (s.heap.push { cls := .type "tuple_iterator", data := .fields #[.ref l, .int 0 0] })
      (o := { cls := .type "enumerate", data := .fields #[.none, .bool false, .ref s.heap.objs.size, rawInt 0, .none, .none] }) rfl
    rw [hz] at this; exact this
  refine ⟨⟨_, he, rfl⟩, h _ he (Heap.get?_push_of_some _ (Heap.get?_push_size _ rfl)) (by rw [Heap.size_push, hz]) fun b o x => Heap.get?_push_of_some _ (Heap.get?_push_of_some _ x)⟩
end
def iEnumT (K : PySem.W.Frag) (ta : TA) : TI := fun σ H R => ta σ H fun vs H1 => ∃ (a : Addr) (xs : List V), vs = [.ref a] ∧ SqT K H1 a xs ∧ R (IteT K 0 a) H1
theorem pi_enumT {X : Cx} {e : Expr} {ta : TA} {p pos tpos : Pos} {elts : List Expr} {kk : Nat} (hg : Gl X "enumerate") (hm : X.mg "enumerate" = none) (ha : PA X [e] ta) (hs : starEach [e] X.env = [(false, eval e X.env)] := by rfl) :
    PI X (.Tuple elts kk tpos) (.Call (.Name "enumerate" p) [e] [] pos) (iEnumT X.K ta) := by
  refine ⟨fun pins s σ H R I h => ?_⟩
  refine Call_ (ld_blt I hg hm boot_enumerate (PyProof.Rows.callWith_type1 (thn (ha.run pos pins s σ H _ I h) fun us s1 ⟨vs, H1, I1, r1, q1⟩ => ?_) hs rfl))
  obtain ⟨a, xs, ex, hq, q⟩ := q1
  subst ex
  cases r1 with
  | cons r rr =>
    cases rr
    cases r
    obtain ⟨its, rv, p', hz⟩ := I1.tuple hq
    have la : a < s1.heap.objs.size := p'.lt
    refine call_enumerate_tuple (show s1.heap.IsTuple a its.toArray from p') fun h' he hit hsz hk => wpAny_pyIter_enum he ?_
    have I2 : Inv X pins σ H1 { s1 with heap := h' } := I1.kept (t' := s1.toks) hk
    have k0 : (0 : Int) + ((0 : Nat) : Int) = 0 := by simp
    refine ⟨s1.heap.objs.size + 1, [s1.heap.objs.size + 1, s1.heap.objs.size], _, _, H1, rfl, I2, turnT 0 a (s1.heap.objs.size + 1) s1.heap.objs.size, ⟨⟨.none, by rw [k0]; exact he⟩, ⟨_, hit, rfl, rfl⟩, Nat.succ_ne_self _, Nat.ne_of_lt la, Nat.ne_of_lt (Nat.lt_succ_of_lt la)⟩, fun b hb => ?_, q⟩
    have hle : s1.heap.objs.size ≤ b := by
      rcases two_mem hb with z | z
      · rw [z]; exact Nat.le_add_right _ _
      · rw [z]; exact Nat.le_refl _
    exact I1.fpOk hle (I1.hok.fresh hle)
/-! ### what follows: readings of walks with pairs -/
section
variable {K : PySem.W.Frag}
theorem walk_zs {x y : Str} : Walk (Izs x y) (min x.cps.size y.cps.size) (fun _ => True) (YPair (fun i => (x.cps.toList[i]?).map fun c => V.str ⟨#[c]⟩) (fun i => (y.cps.toList[i]?).map fun c => V.str ⟨#[c]⟩)) := by
  refine ⟨fun i _ hi q => ?_, fun _ q => ?_, fun i H v H' hi q y' => ?_⟩
  · show i < x.cps.size ∧ i < y.cps.size
    omega
  · show _ ≤ x.cps.size ∧ _ ≤ y.cps.size ∧ _
    omega
  obtain ⟨T, c, d, h1, h2, h3, h4, h5⟩ := y'
  refine ⟨T, .str ⟨#[c]⟩, .str ⟨#[d]⟩, h1, h2, h3, ?_, ?_⟩
  · show Option.map _ (x.cps.toList[i]?) = _
    rw [Array.getElem?_toList, h4]
    rfl
  · show Option.map _ (y.cps.toList[i]?) = _
    rw [Array.getElem?_toList, h5]
    rfl
end
end Ver
namespace Ver
open PySem PySem.Spec PyProof.Rows L2 Evl
open PySem.Builtin PySem.Builtin.Float
/-! ### f"{n:b}" -/
def binS (n : Nat) : Str := ⟨((Nat.toDigits 2 n).map Char.toNat).toArray⟩
def fB : FormatSpec := { align := 62, type := some 98 }
theorem parse_b (name : String) : parseFormatSpec (Str.ofString "b").cps.toList name 62 = .ok fB := by rfl
section
variable {prog : Program} {w : World} {A : Around} {E : Value → Shared → Prop} {s : Shared}
theorem plain_field {D : List Nat} (h : D.isEmpty = false) : intField' { align := 62, type := some 98 } false [] D [] 4 = ⟨D.toArray⟩ := by
  unfold intField'
  simp [h]
theorem field_b {n : Nat} {t : Tok} {sp : Str} {f : FormatSpec} {Q : Value → Shared → Prop} (hz : (binS n).length ≤ sizeLine) (sz : sp.length ≤ sizeLine) (hne : (sp.length == 0) = false)
    (hasc : ((sp.cps.toList.drop 1).any (· ≥ 128) || (sp.cps.getD 0 0 ≥ 128 && !([60, 62, 61, 94] : List Nat).contains (sp.cps.getD 1 0))) = false)
    (hp : ∀ name, parseFormatSpec sp.cps.toList name 62 = .ok f) (hf : f = { align := 62, type := some 98 })
    (h : ∀ k1 k2, Q (.str (binS n) k1) { s with toks := k2 }) :
    wpAny (model prog w) A (formatField (.int (n : Int) t) sp) Q E s := by
  show wpAny _ _ (holding [.int (n : Int) t] (pyFormat (.int (n : Int) t) sp)) Q E s
  refine wpAny_holding ?_
  unfold pyFormat
  refine wpAny_bind (wpAny_mkStr ?_ sz)
  have isI : ∀ s' : Shared, s'.TypeIs (.int (n : Int) t) "int" := fun s' => typeIs_int s' (n : Int) t
  refine wpAny_bind (m := callSpecial? (.int (n : Int) t) (Str.ofString "__format__") [.str sp s.toks])
    (wpAny_callSpecial?_slot (name := Str.ofString "__format__") (isI _) slot_int_format ?_)
  refine wpAny_call (codeAny_call_builtin slot_int_format.plain entry_int_format
    (slot_int_format.check _ _ _ _ _ _ _ _ (isI _) (args_int_format _ _) ?_))
  unfold Builtin.«int.__format__»
  have hv : (Value.str sp s.toks == Value.none) = false := rfl
  simp only [selfAndOne, noKeywords, Int.intOfSelf, asInt?, asStr?, List.isEmpty_nil, if_true, pure_bind, bind_pure, bind_assoc, hne, hasc, Bool.false_eq_true, if_false, hv]
  refine wpAny_bind (wpAny_typeNameOf (T := "str") (typeIs_str _ _ _) (by decide) ?_)
  intro kind
  refine wpAny_bind (wpAny_typeNameOfCut_int ?_)
  have hty : f.type.getD (if sp.cps.back? == some 0 then 0 else 100) = 98 := by
    rw [hf]
    rfl
  have hpr : f.precision = none := by rw [hf]
  have hnz : f.noNeg0 = false := by rw [hf]
  have hw : f.width = none := by rw [hf]
  have hal : f.alt = false := by rw [hf]
  simp only [hp, hty]
  rw [if_pos (by decide)]
  show wpAny _ _ (if _ then _ else _) _ _ _
  rw [if_neg (by simp [hpr])]
  show wpAny _ _ (if _ then _ else _) _ _ _
  rw [if_neg (by simp [hnz])]
  show wpAny _ _ (if _ then _ else _) _ _ _
  rw [if_neg (by decide)]
  show wpAny _ _ (if _ then _ else _) _ _ _
  rw [if_neg (by decide)]
  show wpAny _ _ (if _ then _ else _) _ _ _
  rw [if_neg (by simp [hw])]
  show wpAny _ _ (retStr _) _ _ _
  unfold retStr
  have neg : decide ((n : Int) < 0) = false := by
    rw [decide_eq_false_iff_not]
    omega
  have ab : ((n : Int)).natAbs = n := Int.natAbs_natCast n
  have up : (fun c : Char => (if ((98 : Nat) == 88) = true then c.toUpper else c).toNat) = Char.toNat := by
    funext c
    rfl
  have b2 : ((2 : Nat) == 10) = false := rfl
  simp only [hal, neg, ab, up, b2, Bool.false_eq_true, if_false]
  subst hf
  have len1 := tDigits_len_ge 2 n
  unfold binS at hz h
  generalize hD : (Nat.toDigits 2 n).map Char.toNat = D at hz h ⊢
  have hD2 : D.isEmpty = false := by
    rw [← hD]
    cases hE : Nat.toDigits 2 n with
    | nil =>
      rw [hE] at len1
      exact absurd len1 (by decide)
    | cons x r => rfl
  refine wpAny_bind (wpAny_mkStr (wpAny_pure ?_) ?hs2)
  case hs2 =>
    show (intField' { align := 62, type := some 98 } false [] D [] 4).length ≤ sizeLine
    rw [plain_field hD2]
    exact hz
  have e : ∀ (k1 : Tok) (k2 : Nat), Q (.str (intField' { align := 62, type := some 98 } false [] D [] 4) k1) { s with toks := k2 } := by
    rw [plain_field hD2]
    exact h
  dsimp only
  refine wpAny_bind (wpAny_isInstance (typeIs_str _ _ _) isSubtype_str_str ?_)
  exact wpAny_pure (e _ _)
end
/-- f"{n:b}" of a number that is not below 0 -/
def tBin (te : TE) : TE := fun σ H Q => te σ H fun x H1 => ∃ n : Nat, x = .int (n : Int) ∧ n < 2 ^ 1000 ∧ Q (.str (binS n)) H1
theorem binS_len {n : Nat} (h : n < 2 ^ 1000) : (binS n).length ≤ sizeLine := by
  have e : (binS n).length = (bins n).length := by
    unfold binS bins Str.length
    simp
  rw [e]
  exact Nat.le_trans (bins_len (by decide) h) (by decide)
theorem spec_facts : (Str.ofString "b").length ≤ sizeLine ∧ ((Str.ofString "b").length == 0) = false ∧
    (((Str.ofString "b").cps.toList.drop 1).any (· ≥ 128) || ((Str.ofString "b").cps.getD 0 0 ≥ 128 && !([60, 62, 61, 94] : List Nat).contains ((Str.ofString "b").cps.getD 1 0))) = false := by decide +kernel
theorem pe_bin {X : Cx} {e se : Expr} {te : TE} {pos : Pos} (he : PE X e te) (hs : PE X se (tC (.str (Str.ofString "b")))) : PE X (.FormattedValue e (-1) (some se) pos) (tBin te) := by
  refine ⟨fun pins s σ H Q I h => ?_⟩
  refine wpAny_FormattedValue_spec (thn (he.run pins s σ H _ I h) ?_)
  intro v s1 got
  obtain ⟨x, H1, I1, r1, n, rfl, hn, q⟩ := got
  obtain ⟨t, rfl⟩ := r1
  refine thn (hs.run pins s1 σ H1 (fun y H2 => y = .str (Str.ofString "b") ∧ Q (.str (binS n)) H2) I1 ⟨rfl, q⟩) ?_
  intro r s2 got2
  obtain ⟨y, H2, I2, r2, rfl, q2⟩ := got2
  obtain ⟨t2, rfl⟩ := r2
  obtain ⟨z1, z2, z3⟩ := spec_facts
  exact ⟨_, t2, rfl, field_b (binS_len hn) z1 z2 z3 parse_b rfl fun k1 k2 => ⟨.str (binS n), H2, I2.tok k2, ⟨k1, rfl⟩, q2⟩⟩
theorem ev_bin {te : TE} {σ : L2.St} {H : Hp} {n : Nat} (h : Ev te σ H (.int (n : Int))) (hn : n < 2 ^ 1000) : Ev (tBin te) σ H (.str (binS n)) := fun H1 e Q q =>
  h H1 e _ fun H2 e2 => ⟨n, rfl, hn, q H2 e2⟩
end Ver
namespace Ver
open PySem PySem.Spec PyProof.Rows L2 Evl
section
variable {P : Program} {w : World} {K : PySem.W.Frag} {mg : Str → Option Value} {base : Heap}
theorem walk_eL {k : Int} {a : Addr} {xs : List V} : Walk (IteL K k a) xs.length (fun H => SqL K H a xs) (YPair (fun i => some (.int (k + (i : Int)))) (fun i => xs[i]?)) := by
  refine ⟨fun i _ hi q => ⟨xs, xs[i], q, by simp [hi]⟩, fun _ q => ⟨xs, q, rfl⟩, fun i H v H' _ q y => ?_⟩
  obtain ⟨T, x, h1, h2, h3, h4⟩ := y
  exact ⟨T, .int (k + (i : Int)), x, h1, h2, h3, rfl, h4 xs q⟩
theorem walk_eT {k : Int} {a : Addr} {xs : List V} : Walk (IteT K k a) xs.length (fun H => SqT K H a xs) (YPair (fun i => some (.int (k + (i : Int)))) (fun i => xs[i]?)) := by
  refine ⟨fun i _ hi q => ⟨xs, xs[i], q, by simp [hi]⟩, fun _ q => ⟨xs, q, rfl⟩, fun i H v H' _ q y => ?_⟩
  obtain ⟨T, x, h1, h2, h3, h4⟩ := y
  exact ⟨T, .int (k + (i : Int)), x, h1, h2, h3, rfl, h4 xs q⟩
theorem s_forE {tl tk : TA} {tb : TS} {D : Ends} {σ : L2.St} {H : Hp} {a : Addr} {k : Int} {xs : List V} {j1 j2 : Nat} (h : EvA tl σ H [.ref a]) (hk : EvA tk σ H [.int k]) (hb : 0 ≤ k ∧ k ≤ 1000) (hx : SqL K H a xs ∨ SqT K H a xs)
    (Pv : Nat → L2.St → Hp → Prop) (h0 : ∀ H1, Ex H H1 → Pv 0 σ H1) (hG : ∀ i σ' H', Pv i σ' H' → Ex H H')
    (hs : ∀ i x σ' H' H2, xs[i]? = some x → Pv i σ' H' → Ex H' H2 → tb { D with nx := Pv (i + 1), ct := Pv (i + 1), bk := D.nx } ((σ'.set j1 (some (.int (k + (i : Int))))).set j2 (some x)) H2)
    (hd : ∀ σ' H', Pv xs.length σ' H' → D.nx σ' H') : tFor (iEnumK K tl tk) (gTup K 2 (gCons (gName j1) (gCons (gName j2) gNil))) tb D σ H := by
  refine h H (Ex.refl H) _ fun H1 e1 => hk H1 e1 _ fun H2 e2 => ?_
  have e12 := e1.trans e2
  have step : ∀ (i : Nat) (x : V) (σ' : L2.St) (H3 H4 : Hp), i < xs.length → Pv i σ' H3 → YPair (fun i => some (.int (k + (i : Int)))) (fun i => xs[i]?) i H3 x H4 →
      gTup K 2 (gCons (gName j1) (gCons (gName j2) gNil)) x σ' H4 fun σ2 H5 => tb { D with nx := Pv (i + 1), ct := Pv (i + 1), bk := D.nx } σ2 H5 := by
    intro i v σ' H3 H4 _ p y
    obtain ⟨T, x, z, rfl, hT, rfl, e3, e4⟩ := y
    cases e3
    exact ⟨T, [.int (k + (i : Int)), z], rfl, st_of upd_same, rfl, _, _, rfl, _, _, rfl, rfl, hs i z σ' H3 _ e4 p (Ex.new hT)⟩
  refine ⟨a, k, rfl, rfl, hb, ?_⟩
  rcases hx with hx | hx
  · exact .inl ⟨xs, ex_l e12 hx, for_it (walk_eL (xs := xs)) Pv (h0 H2 e12) (fun i σ' H' _ p => ex_l (hG i σ' H' p) hx) step hd⟩
  · exact .inr ⟨xs, ex_t e12 hx, for_it (walk_eT (xs := xs)) Pv (h0 H2 e12) (fun i σ' H' _ p => ex_t (hG i σ' H' p) hx) step hd⟩
theorem ev_bm {r : V → List V → Hp → VK → Prop} {to : TE} {ta : TA} {σ : L2.St} {H : Hp} {ty : String} {x z : V} {vs : List V} (hx : Ev to σ H x) (ht : ∀ H1, Ex H H1 → tyV K ty x H1) (ha : EvA ta σ H vs)
    (hr : ∀ H1, Ex H H1 → ∀ Q : VK, (∀ H2, Ex H1 H2 → Q z H2) → r x vs H1 Q) : Ev (tBM K ty r to ta) σ H z := fun H1 e Q q =>
  hx H1 e _ fun H2 e2 => ⟨ht H2 (e.trans e2), ha H2 (e.trans e2) _ fun H3 e3 => hr H3 ((e.trans e2).trans e3) Q fun H4 e4 => q H4 ((e2.trans e3).trans e4)⟩
def nb (n m : Int) : Str := ⟨(nbL n.toNat (bitsOf m).toNat).toArray⟩
theorem bits_lt {n m : Int} (h0 : 0 ≤ n) (h : n < m) : n.toNat < 2 ^ (bitsOf m).toNat := by
  unfold bitsOf Builtin.Int.intBits
  obtain ⟨k, hk⟩ := Int.eq_ofNat_of_zero_le (show 0 ≤ m - 1 by omega)
  rw [hk]
  have hn : n.toNat ≤ k := by omega
  by_cases c : k = 0
  · subst c
    have : n.toNat = 0 := by omega
    rw [this]
    decide
  · rw [if_neg (by simpa using c)]
    rw [Int.toNat_natCast, Int.natAbs_natCast]
    exact Nat.lt_of_le_of_lt hn Nat.lt_log2_self
theorem bits_le {m : Int} {b : Nat} (h1 : 1 ≤ m) (h : m ≤ 2 ^ b) : bitsOf m ≤ (b : Int) := by
  unfold bitsOf Builtin.Int.intBits
  obtain ⟨k, hk⟩ := Int.eq_ofNat_of_zero_le (show 0 ≤ m - 1 by omega)
  rw [hk]
  by_cases c : k = 0
  · subst c
    exact Int.natCast_nonneg b
  · rw [if_neg (by simpa using c)]
    have cast : (2 : Int) ^ b = ((2 ^ b : Nat) : Int) := by
      rw [Int.natCast_pow]
      rfl
    rw [cast] at h
    have := (Nat.log2_lt c).mpr (show k < 2 ^ b by omega)
    rw [Int.natAbs_natCast]
    omega
theorem zfill_is {n w : Nat} (hw : w ≠ 0) (h : n < 2 ^ w) : Txt.zfill (binS n) (w : Int) = ⟨(nbL n w).toArray⟩ := by
  have hl : (binS n).length = (bins n).length := by
    unfold binS bins Str.length
    simp
  have hle := bins_len (by omega) h
  have hpos := bins_pos n
  have hd := (bins_ok n).1
  unfold Txt.zfill nbL
  rw [if_neg hw, hl]
  by_cases c : (w : Int) ≤ ((bins n).length : Nat)
  · rw [if_pos c]
    have e : w - (bins n).length = 0 := by omega
    rw [e]
    rfl
  · rw [if_neg c, Int.toNat_natCast]
    have hb : binS n = ⟨(bins n).toArray⟩ := rfl
    rw [hb]
    unfold zfilled
    cases hc : bins n with
    | nil =>
      rw [hc] at hpos
      exact absurd hpos (by decide)
    | cons x r =>
      have hx := hd x (by rw [hc]; exact List.mem_cons_self ..)
      rcases hx with rfl | rfl
      · show Builtin.Str.padded _ _ 0 48 = _
        unfold Builtin.Str.padded
        simp
      · show Builtin.Str.padded _ _ 0 48 = _
        unfold Builtin.Str.padded
        simp
theorem pad_ok {n : Nat} (h : n ≤ 1000) : PadOk (n : Int) = true := by
  have k : ∀ m : Nat, m ≤ 1000 → PadOk (m : Int) = true := by decide +kernel
  exact k n h
theorem q_forS {z : Str} {te : TE} {tb tz : TS} {D : Ends} {σ : L2.St} {H : Hp} {j : Nat} (h : Ev te σ H (.str z)) (Pv : Nat → L2.St → Hp → Prop) (h0 : ∀ H1, Ex H H1 → Pv 0 σ H1)
    (hs : ∀ i c σ' H', z.cps.toList[i]? = some c → Pv i σ' H' → tb { D with nx := Pv (i + 1), ct := Pv (i + 1), bk := tz D } (σ'.set j (some (.str ⟨#[c]⟩))) H') (hd : ∀ σ' H', Pv z.cps.size σ' H' → tz D σ' H') :
    tSeq (tFor (iStr te) (gName j) tb) tz D σ H := by
  refine h H (Ex.refl H) _ fun H1 e1 => ⟨z, rfl, ?_⟩
  refine for_it (D := { D with nx := tz D }) (walk_str (z := z)) Pv (h0 H1 e1) (fun _ _ _ _ _ => trivial) ?_ hd
  intro i x σ' H2 H3 _ p y
  obtain ⟨rfl, c, hc, rfl⟩ := y
  refine hs i c σ' _ ?_ p
  rw [Array.getElem?_toList]
  exact hc
theorem one_code {c d : Nat} : (V.str ⟨#[c]⟩ = V.str ⟨#[d]⟩) ↔ c = d := by
  constructor
  · intro h
    have h2 := V.str.inj h
    have h3 := congrArg (fun s : Str => s.cps.toList) h2
    simpa using h3
  · intro h
    rw [h]
theorem str0 : Str.ofString "0" = (⟨#[48]⟩ : Str) := by decide +kernel
theorem str1 : Str.ofString "1" = (⟨#[49]⟩ : Str) := by decide +kernel
/-! ### more words for readings -/
section
variable {σ : L2.St} {H : Hp} {ta tb : TE}
theorem rcl_list {p : Addr} {xs : List V} (h : SqL K H p xs) : RCL (fun vs H Q => ∃ p ys, vs = [V.ref p] ∧ (SqL K H p ys ∨ SqT K H p ys) ∧ ∀ l, H l = none → Q (V.ref l) (upd H l (.lst ys))) [.ref p] H xs := fun H1 e Q q =>
  ⟨p, xs, rfl, .inl (ex_l e h), fun l hl => q l _ hl (Ex.new hl) upd_same⟩
theorem el_rep {xs : List V} {n : Nat} (h : EvL ta σ H xs) (hk : ∀ H1, Ex H H1 → Ev tb σ H1 (.int (n : Int))) (hz : xs.length * n ≤ 100000) (hn : n ≤ 100000) : EvL (tOp rRep ta tb) σ H (List.replicate n xs).flatten := fun H1 e Q q =>
  h H1 e _ fun p H2 hp e2 h2 => hk H2 (e.trans e2) H2 (Ex.refl H2) _ fun H3 e3 =>
    ⟨p, (n : Int), xs, rfl, rfl, e3 _ _ h2, by omega, by omega, by rw [Int.toNat_natCast]; exact sz_of hz, fun l hl => by
      rw [Int.toNat_natCast]
      exact q l _ (fresh_back (e2.trans e3) hl) ((e2.trans e3).trans (Ex.new hl)) upd_same⟩
theorem flat_one {n : Nat} {v : V} : (List.replicate n [v]).flatten = List.replicate n v := by
  induction n with
  | zero => rfl
  | succ n ih =>
    rw [List.replicate_succ, List.flatten_cons, ih]
    rfl
theorem map_rep {n : Nat} {z : Int} : (List.replicate n z).map V.int = List.replicate n (V.int z) := List.map_replicate
theorem el_catV {xs ys : List V} {b : Addr} (h : EvL ta σ H xs) (hb : ∀ H1, Ex H H1 → Ev tb σ H1 (.ref b)) (hy : H b = some (.lst ys)) (hz : xs.length + ys.length ≤ 100000) : EvL (tOp rCat ta tb) σ H (xs ++ ys) := fun H1 e Q q =>
  h H1 e _ fun p H2 hp e2 h2 => hb H2 (e.trans e2) H2 (Ex.refl H2) _ fun H3 e3 =>
    ⟨p, b, xs, ys, rfl, rfl, e3 _ _ h2, (((e.trans e2).trans e3)) _ _ hy, sz_of hz, fun l hl => q l _ (fresh_back (e2.trans e3) hl) ((e2.trans e3).trans (Ex.new hl)) upd_same⟩
theorem el_catL {xs ys : List V} (h : EvL ta σ H xs) (hb : EvL tb σ H ys) (hz : xs.length + ys.length ≤ 100000) : EvL (tOp rCat ta tb) σ H (xs ++ ys) := fun H1 e Q q =>
  h H1 e _ fun p H2 hp e2 h2 => hb H2 (e.trans e2) _ fun p2 H3 hp2 e3 h3 =>
    ⟨p, p2, xs, ys, rfl, rfl, e3 _ _ h2, h3, sz_of hz, fun l hl => q l _ (fresh_back (e2.trans e3) hl) ((e2.trans e3).trans (Ex.new hl)) upd_same⟩
theorem et_yes : EvT tYes σ H true := fun H1 _ _ q => q H1 (Ex.refl H1)
theorem given_all (n : Nat) (v : Nat → V) : given n (fun _ => true) v = (List.range n).map v := by
  unfold given
  rw [List.filter_eq_self.mpr fun _ _ => rfl]
/-- the data of a list of ints -/
theorem dp_ints : ∀ ns : List Int, DpAll K H (ns.map V.int) (ns.map PyData.int)
  | [] => .nil
  | n :: ns => .cons (.int n) (dp_ints ns)
theorem lay_ints : ∀ ns : List Int, PyData.canLayAll0 (ns.map PyData.int) = true
  | [] => by simp [PyData.canLayAll0]
  | n :: ns => by simp [PyData.canLayAll0, PyData.canLay0, lay_ints ns]
theorem deep_ints : ∀ ns : List Int, PyData.depthAll (ns.map PyData.int) = 0
  | [] => by simp [PyData.depthAll]
  | n :: ns => by simp [PyData.depthAll, PyData.depth, deep_ints ns]
theorem shaped_list_of_ints (ns : List Int) : SeqAt.shaped (.list (ns.map PyData.int)) = true := by
  show (PyData.canLay0 _ && decide (PyData.depth _ ≤ 64)) = true
  simp [PyData.canLay0, PyData.depth, lay_ints ns, deep_ints ns]
theorem rv_neInts {p q : Addr} {ns : List Int} (h1 : SqL K H p (ns.map V.int)) (h2 : SqL K H q (ns.map V.int)) : RV (rNeD K) (.ref p) (.ref q) H (.bl false) := fun H1 e Q k => by
  refine ⟨.list (ns.map PyData.int), .list (ns.map PyData.int), .lst (ex_l e h1) (dp_ints ns), .lst (ex_l e h2) (dp_ints ns), shaped_list_of_ints ns, shaped_list_of_ints ns, ?_⟩
  have r : PyData.eqv (.list (ns.map PyData.int)) (.list (ns.map PyData.int)) = true := SeqAt.eqv_refl _ (SeqAt.canLay_of_shaped (shaped_list_of_ints ns))
  rw [r]
  exact k H1 (Ex.refl H1)
end
theorem cut_to (xs : List V) (n : Nat) : cutV xs none (some (n : Int)) = xs.take n := by
  unfold cutV
  rw [HT.sIx_none, HT.sIx_nat]
  simp only [Nat.sub_zero, List.drop_zero]
  by_cases h : n ≤ xs.length
  · rw [Nat.min_eq_left h]
  · rw [Nat.min_eq_right (by omega), List.take_length, List.take_of_length_le (by omega)]
theorem cut_of (xs : List V) (a b : Nat) : ∃ k m, cutV xs (some (a : Int)) (some (b : Int)) = (xs.drop k).take m := by
  unfold cutV
  rw [HT.sIx_nat, HT.sIx_nat]
  exact ⟨_, _, rfl⟩
theorem at0_rep {z : Int} {n i : Nat} (h : i < n) : at0 (List.replicate n z) i = z := by
  unfold at0
  rw [List.getD_eq_getElem?_getD, List.getElem?_replicate, if_pos h]
  rfl
theorem at0_of_mem {ps : List Int} {x : Int} (h : x ∈ ps) : ∃ i, i < ps.length ∧ at0 ps i = x := by
  obtain ⟨i, hi, e⟩ := List.mem_iff_getElem.mp h
  refine ⟨i, hi, ?_⟩
  unfold at0
  rw [List.getD_eq_getElem?_getD, List.getElem?_eq_getElem hi]
  exact e
def restF (c : Int) (ss : List Int) : Nat → Int
  | 0 => c - 10 ^ 18
  | i + 1 => restF c ss i / at0 ss i
def digA (c : Int) (ss : List Int) (i : Nat) : Int := restF c ss i % at0 ss i
def sdF (c : Int) : Nat → Int
  | 0 => c % 2147483629
  | i + 1 => (sdF c i * 48271 + 974711 * i + 12345) % 2147483647
def twF (c : Int) (i : Nat) : Int := (sdF c (i + 1) * (sdF c (i + 1) / 65537 + 3)) % 2147483629
def digB (c : Int) (ss : List Int) (i : Nat) : Int := twF c i / 19 % at0 ss i
def dig (c : Int) (ss : List Int) (i : Nat) : Int := if 10 ^ 18 ≤ c then digA c ss i else digB c ss i
def digits (c : Int) (ss : List Int) : List Int := (List.range ss.length).map (dig c ss)
theorem digits_len (c : Int) (ss : List Int) : (digits c ss).length = ss.length := by
  unfold digits
  rw [List.length_map, List.length_range]
theorem at0_map {n i : Nat} (f : Nat → Int) (h : i < n) : at0 ((List.range n).map f) i = f i := by
  unfold at0
  rw [List.getD_eq_getElem?_getD, List.getElem?_map, List.getElem?_range h]
  rfl
theorem dig_bound {c : Int} {ss : List Int} {i : Nat} (h : 0 < at0 ss i) : 0 ≤ dig c ss i ∧ dig c ss i < at0 ss i := by
  unfold dig digA digB
  split
  · exact ⟨Int.emod_nonneg _ (by omega), Int.emod_lt_of_pos _ h⟩
  · exact ⟨Int.emod_nonneg _ (by omega), Int.emod_lt_of_pos _ h⟩
theorem digits_at {c : Int} {ss : List Int} {i : Nat} (hi : i < ss.length) (h : 0 < at0 ss i) : 0 ≤ at0 (digits c ss) i ∧ at0 (digits c ss) i < at0 ss i := by
  unfold digits
  rw [at0_map _ hi]
  exact dig_bound h
theorem sd_bound (c : Int) : ∀ i, 0 ≤ sdF c i ∧ sdF c i < 2147483647
  | 0 => by
    show 0 ≤ c % 2147483629 ∧ c % 2147483629 < 2147483647
    omega
  | i + 1 => by
    show 0 ≤ (sdF c i * 48271 + 974711 * i + 12345) % 2147483647 ∧ (sdF c i * 48271 + 974711 * i + 12345) % 2147483647 < 2147483647
    omega
theorem map_range_succ (f : Nat → Int) (n : Nat) : ((List.range (n + 1)).map f).map V.int = ((List.range n).map f).map V.int ++ [V.int (f n)] := by
  rw [List.range_succ, List.map_append, List.map_append]
  rfl
def spDigits (K : PySem.W.Frag) : Sp := fun vs H Q _ => ∃ (c : Int) (a : Addr) (ss : List Int), vs = [.int c, .ref a] ∧ SqL K H a (ss.map V.int) ∧ ss.length ≤ 1000 ∧ (∀ i, i < ss.length → 0 < at0 ss i ∧ at0 ss i < 18446744073709551616) ∧ RetL ((digits c ss).map V.int) H Q
def spWhole : Sp := fun vs H Q _ => ∃ n : Int, vs = [.int n] ∧ RetV (.bl true) H Q
def seedF (ns : List Int) : Nat → Int
  | 0 => 17
  | i + 1 => (seedF ns i * 31 + at0 ns i % 1000003) % 1000003
def cell (ns : List Int) (k : Int) : Int := if k < (ns.length : Int) then at0 ns k.toNat else ((seedF ns ns.length + 7) * (k + 3) * 69621) % 2147483647
def spCell (K : PySem.W.Frag) : Sp := fun vs H Q _ => ∃ (a : Addr) (ns : List Int) (k : Int), vs = [.ref a, .int k] ∧ SqL K H a (ns.map V.int) ∧ ns.length ≤ 63 ∧ (0 ≤ k ∧ k ≤ 1000) ∧ RetV (.int (cell ns k)) H Q
theorem sv_whole {n : Int} {H : Hp} : SpV spWhole ([V.int n] ++ []) H (.bl true) := fun _ _ _ q _ => ⟨n, rfl, q⟩
theorem sv_cell {a : Addr} {ns : List Int} {k : Int} {H : Hp} (hS : SqL K H a (ns.map V.int)) (h : ns.length ≤ 63) (hk : 0 ≤ k ∧ k ≤ 1000) : SpV (spCell K) ([V.ref a, V.int k] ++ []) H (.int (cell ns k)) := fun _ e _ q _ => ⟨a, ns, k, rfl, ex_l e hS, h, hk, q⟩
theorem sl_digits {c : Int} {a : Addr} {ss : List Int} {H : Hp} (hS : SqL K H a (ss.map V.int)) (hz : ss.length ≤ 1000) (hss : ∀ i, i < ss.length → 0 < at0 ss i ∧ at0 ss i < 18446744073709551616) : SpL (spDigits K) ([V.int c, V.ref a] ++ []) H ((digits c ss).map V.int) := fun _ e _ q _ => ⟨c, a, ss, rfl, ex_l e hS, hz, hss, q⟩
section
variable {σ : L2.St} {H : Hp} {ta tl : TE} {sp : Sp} {E : XK} {tz : TS} {D : Ends}
theorem el_digs {c : Int} {ss : List Int} (h : Ev ta σ H (.int c)) (hl : EvL tl σ H (ss.map V.int)) (hz : ss.length ≤ 1000) (hss : ∀ i, i < ss.length → 0 < at0 ss i ∧ at0 ss i < 18446744073709551616) : EvL (tCall (spDigits K) [] E (tCons ta (tCons tl tNil))) σ H ((digits c ss).map V.int) := fun H1 e Q q =>
  h H1 e _ fun H2 e2 => hl H2 (e.trans e2) _ fun p H3 hp e3 h3 => ⟨c, p, ss, rfl, sq_of h3, hz, hss, fun l H4 hl4 e4 h4 => q l H4 (fresh_back (e2.trans e3) hl4) ((e2.trans e3).trans e4) h4⟩
theorem ev_call2L {x z : V} {xs dvs : List V} (h : Ev ta σ H x) (hl : EvL tl σ H xs) (hs : ∀ p H1, Ex H H1 → H1 p = some (.lst xs) → SpV sp ([x, .ref p] ++ dvs) H1 z) : Ev (tCall sp dvs E (tCons ta (tCons tl tNil))) σ H z := fun H1 e Q q =>
  h H1 e _ fun H2 e2 => hl H2 (e.trans e2) _ fun p H3 hp e3 h3 => hs p H3 ((e.trans e2).trans e3) h3 H3 (Ex.refl H3) Q (fun H4 e4 => q H4 ((e2.trans e3).trans e4)) E
theorem ev_call1L {y z : V} {xs dvs : List V} (hl : EvL tl σ H xs) (h : ∀ H1, Ex H H1 → Ev ta σ H1 y) (hs : ∀ p H1, Ex H H1 → H1 p = some (.lst xs) → SpV sp ([.ref p, y] ++ dvs) H1 z) : Ev (tCall sp dvs E (tCons tl (tCons ta tNil))) σ H z := fun H1 e Q q =>
  hl H1 e _ fun p H2 hp e2 h2 => h H2 (e.trans e2) H2 (Ex.refl H2) _ fun H3 e3 => hs p H3 ((e.trans e2).trans e3) (e3 _ _ h2) H3 (Ex.refl H3) Q (fun H4 e4 => q H4 ((e2.trans e3).trans e4)) E
theorem ev_callL {z : V} {xs dvs : List V} (hl : EvL tl σ H xs) (hs : ∀ p H1, Ex H H1 → H1 p = some (.lst xs) → SpV sp ([.ref p] ++ dvs) H1 z) : Ev (tCall sp dvs E (tCons tl tNil)) σ H z := fun H1 e Q q =>
  hl H1 e _ fun p H2 hp e2 h2 => hs p H2 (e.trans e2) h2 H2 (Ex.refl H2) Q (fun H4 e4 => q H4 (e2.trans e4)) E
theorem el_slN {xs : List V} {t1 t2 : TO} {lo hi : Option Int} (h : EvL tl σ H xs) (h1 : ∀ H1, Ex H H1 → EvO t1 σ H1 lo) (h2 : ∀ H1, Ex H H1 → EvO t2 σ H1 hi) : EvL (tSl (rSlL K) tl t1 t2) σ H (cutV xs lo hi) := fun H1 e Q q =>
  h H1 e _ fun p H2 hp e2 hx => h1 H2 (e.trans e2) H2 (Ex.refl H2) _ fun H3 e3 => h2 H3 ((e.trans e2).trans e3) H3 (Ex.refl H3) _ fun H4 e4 =>
    ⟨p, xs, rfl, sq_of (e4 _ _ (e3 _ _ hx)), fun l hl => q l _ (fresh_back ((e2.trans e3).trans e4) hl) (((e2.trans e3).trans e4).trans (Ex.new hl)) upd_same⟩
theorem q_callD {ta : TA} {vs dvs : List V} {i : Nat} (h : EvA ta σ H vs) (k : ∀ H1, Ex H H1 → sp (vs ++ dvs) H1 (fun x H2 => tz D (σ.set i (some x)) H2) E) : tSeq (tAsg (tCall sp dvs E ta) (gName i)) tz D σ H := h H (Ex.refl H) _ k
end
def spLw : Sp := fun vs H Q _ => ∃ n : Int, vs = [.int n] ∧ 1 ≤ n ∧ n ≤ 2 ^ 2100 ∧ RetV (.int (bitsOf n)) H Q
theorem sv_lw {n : Int} {H : Hp} (h1 : 1 ≤ n) (h2 : n ≤ 2 ^ 2100) : SpV spLw ([V.int n] ++ []) H (.int (bitsOf n)) := fun _ _ _ q _ => ⟨n, rfl, h1, h2, q⟩
def spNb : Sp := fun vs H Q _ => ∃ n m : Int, vs = [.int n, .int m] ∧ 0 ≤ n ∧ n < m ∧ m ≤ 2 ^ 1000 ∧ RetV (.str (nb n m)) H Q
theorem sv_nb {n m : Int} {H : Hp} (h0 : 0 ≤ n) (h1 : n < m) (h2 : m ≤ 2 ^ 1000) : SpV spNb ([V.int n, V.int m] ++ []) H (.str (nb n m)) := fun _ _ _ q _ => ⟨n, m, rfl, h0, h1, h2, q⟩
def spWidth : Sp := fun vs H Q _ => ∃ n : Int, vs = [.int n] ∧ RetV (.int (bitsOf n)) H Q
theorem sv_width {n : Int} {H : Hp} : SpV spWidth ([V.int n] ++ []) H (.int (bitsOf n)) := fun _ _ _ q _ => ⟨n, rfl, q⟩
end
end Ver
namespace Ver
open PySem PySem.Spec PyProof.Rows L2 Evl
open PySem.Builtin PySem.Builtin.Str
/-! ### texts as lists of codes -/
abbrev tx (l : List Nat) : V := .str (SX.S l)
theorem tx_inj {a b : List Nat} (h : tx a = tx b) : a = b := SX.S_inj (V.str.inj h)
theorem tx_dec {a b : List Nat} : decide (tx a = tx b) = decide (a = b) := decide_eq_decide.mpr ⟨tx_inj, fun h => by rw [h]⟩
theorem stripLo_all {goes : Nat → Bool} {l : List Nat} (h : ∀ c ∈ l, goes c = true) : stripLo goes true (SX.S l) = l.length := by
  unfold stripLo
  rw [if_pos rfl]
  show (l.takeWhile goes).length = _
  rw [List.takeWhile_eq_filter_of_all h]
where
  List.takeWhile_eq_filter_of_all {goes : Nat → Bool} {l : List Nat} (h : ∀ c ∈ l, goes c = true) : l.takeWhile goes = l := by
    induction l with
    | nil => rfl
    | cons a r ih =>
      rw [List.takeWhile_cons, if_pos (h a (List.mem_cons_self ..)), ih fun c hc => h c (List.mem_cons_of_mem _ hc)]
theorem strip_to {goes : Nat → Bool} {r : Bool} {l : List Nat} (h : ∀ c ∈ l, goes c = true) : Txt.stripBy goes true r (SX.S l) = SX.S [] := by
  have hlo := stripLo_all h
  unfold Txt.stripBy stripSame stripped
  rw [hlo]
  have hhi : stripHi goes r (SX.S l) l.length = l.length := by
    unfold stripHi
    rw [SX.S_len]
    have e : (SX.S l).cps.toList.drop l.length = [] := List.drop_length
    rw [e]
    cases r <;> rfl
  rw [hhi, SX.S_len]
  cases l with
  | nil => rfl
  | cons a t =>
    rw [if_neg (by simp)]
    unfold strSub
    rw [← SX.S_tl ((⟨(SX.S (a :: t)).cps.extract (a :: t).length (a :: t).length⟩ : Str))]
    congr 1
    simp
theorem has_contains {l m : List Nat} (h : ∀ c ∈ l, c ∈ m) : ∀ c ∈ l, (SX.S m).cps.contains c = true := fun c hc => by
  have := h c hc
  simpa using this
theorem strip_chars {l m : List Nat} (h : ∀ c ∈ l, c ∈ m) : Txt.stripChars (SX.S l) (SX.S m) = SX.S [] := strip_to (has_contains h)
theorem lstrip_chars {l m : List Nat} (h : ∀ c ∈ l, c ∈ m) : Txt.lstripChars (SX.S l) (SX.S m) = SX.S [] := strip_to (has_contains h)
theorem occ_mem (s sub : Str) (hi lim : Nat) : ∀ (l : List Nat) (st : Array Nat × Nat) (k : Nat), k ∈ (forIn l st (StrLaws.occBody s sub hi lim)).run.fst.toList → k ∈ st.fst.toList ∨ (k + sub.length ≤ hi ∧ subAt s sub k = true)
  | [], st, k, h => .inl h
  | a :: l, st, k, h => by
    rw [List.forIn_cons] at h
    unfold StrLaws.occBody at h
    split at h
    · rename_i c
      rcases occ_mem s sub hi lim l _ k h with q | q
      · have q2 : k ∈ st.fst.toList ++ [a] := by simpa using q
        rcases List.mem_append.mp q2 with z | z
        · exact .inl z
        · rw [List.mem_singleton.mp z]
          exact .inr ⟨c.1.2, c.2⟩
      · exact .inr q
    · exact occ_mem s sub hi lim l _ k h
/-- the one place of a sign in a text without repeats -/
theorem index_one {l : List Nat} {c i : Nat} (nd : l.Nodup) (h : l[i]? = some c) : ∃ rest, occurrences (SX.S l) (SX.S [c]) 0 (SX.S l).length 1 = i :: rest := by
  have f := StrLaws.found_one (SX.S l) c
  have hm : c ∈ l := List.mem_of_getElem? h
  have e : (⟨#[c]⟩ : Str) = SX.S [c] := rfl
  rw [e] at f
  rw [show decide (c ∈ (SX.S l).cps.toList) = true from decide_eq_true hm] at f
  cases ho : occurrences (SX.S l) (SX.S [c]) 0 (SX.S l).length 1 with
  | nil =>
    rw [ho] at f
    cases f
  | cons j rest =>
    have hj : j ∈ occurrences (SX.S l) (SX.S [c]) 0 (SX.S l).length 1 := by
      rw [ho]
      exact List.mem_cons_self ..
    rw [StrLaws.occ_eq] at hj
    rcases occ_mem _ _ _ _ _ _ _ hj with z | z
    · cases z
    · have g := (StrLaws.subAt_one (SX.S l) c j).mp z
      have g2 : l[j]? = some c := g
      obtain ⟨h1, e1⟩ := List.getElem?_eq_some_iff.mp h
      obtain ⟨h2, e2⟩ := List.getElem?_eq_some_iff.mp g2
      have : i = j := (List.getElem_inj nd).mp (e1.trans e2.symm)
      subst this
      exact ⟨rest, rfl⟩
theorem starts_S {a b : List Nat} : Txt.startswith (SX.S a) (SX.S b) = decide (b <+: a) := by
  unfold Txt.startswith
  rw [StrLaws.subAt_eq, SX.S_len, SX.S_len]
  show (decide (0 + b.length ≤ a.length) && ((a.drop 0).take b.length == b)) = _
  rw [List.drop_zero, Nat.zero_add, Bool.eq_iff_iff, Bool.and_eq_true, decide_eq_true_eq, beq_iff_eq, decide_eq_true_eq]
  constructor
  · intro h
    rw [← h.2]
    exact List.take_prefix _ _
  · intro h
    exact ⟨h.length_le, (List.prefix_iff_eq_take.mp h).symm⟩
/-! ### text * n -/
theorem foldl_reps (l : List Nat) : ∀ (n : Nat) (acc : Array Nat), ((List.replicate n l.toArray).foldl (· ++ ·) acc).toList = acc.toList ++ (List.replicate n l).flatten
  | 0, acc => by simp
  | n + 1, acc => by
    rw [List.replicate_succ, List.foldl_cons, foldl_reps l n, List.replicate_succ, List.flatten_cons]
    simp
theorem mul_S {l : List Nat} {n : Nat} : Txt.mul (SX.S l) (n : Int) = SX.S (List.replicate n l).flatten := by
  unfold Txt.mul
  by_cases h : (n : Int) < 1
  · rw [if_pos h]
    have : n = 0 := by omega
    subst this
    rfl
  · rw [if_neg h]
    by_cases c : ((n : Int) == 1 || (SX.S l).length == 0) = true
    · rw [if_pos c]
      rw [SX.S_len, Bool.or_eq_true, beq_iff_eq, beq_iff_eq] at c
      rcases c with c | c
      · have : n = 1 := by omega
        subst this
        simp
      · have : l = [] := List.eq_nil_of_length_eq_zero c
        subst this
        have e : (List.replicate n ([] : List Nat)).flatten = [] := by simp
        rw [e]
    · rw [if_neg c, Int.toNat_natCast]
      have e := foldl_reps l n #[]
      rw [← SX.S_tl ((⟨(List.replicate n (SX.S l).cps).foldl (· ++ ·) #[]⟩ : Str))]
      congr 1
def rMulS : R2 := fun x y H Q => ∃ (l : List Nat) (n : Nat), x = tx l ∧ y = .int (n : Int) ∧ n ≤ 100000 ∧ l.length * n ≤ 100000 ∧ Q (tx (List.replicate n l).flatten) H
theorem mul_ok {l : List Nat} {n : Nat} (h1 : n ≤ 100000) (h2 : l.length * n ≤ 100000) : MulOk (SX.S l) (n : Int) := by
  refine ⟨?_, fun h c => ?_, fun h c => ?_⟩
  · have a : ¬ (n : Int) < -(2 ^ 63 : Int) := by omega
    have b : ¬ (n : Int) ≥ 2 ^ 63 := by omega
    rw [decide_eq_false a, decide_eq_false b]
    rfl
  · rw [SX.S_len]
    have hn : 0 < (n : Int) := by omega
    have e : ((l.length : Int) * n) ≤ 100000 := by
      rw [← Int.natCast_mul]
      omega
    have k : (l.length : Int) ≤ (2 ^ 63 - 1) / n := (Int.le_ediv_iff_mul_le hn).mpr (by omega)
    omega
  · rw [SX.S_len, Int.toNat_natCast]
    unfold tooLong
    have := sz_of h2
    exact decide_eq_false (by omega)
theorem op_mulS {X : Cx} : OpR X (binaryOp .Mult) rMulS := by
  intro pins s σ H x y v u Q I rx ry h
  obtain ⟨l, n, rfl, rfl, h1, h2, q⟩ := h
  obtain ⟨t, rfl⟩ := rx
  obtain ⟨t', rfl⟩ := ry
  refine SB.mul (mul_ok h1 h2) fun t2 k => ?_
  rw [mul_S]
  exact ⟨tx _, H, I.tok _, ⟨_, rfl⟩, q⟩
/-! ### text[::-1] -/
theorem pe_revS {X : Cx} {e : Expr} {te : TE} {k : Nat} {p1 p2 p3 pos : Pos} (he : PE X e te) : PE X (.Subscript e (.Slice none none (some (.UnaryOp .USub (.Constant (.int 1) k p1) p2)) p3) pos) (tRevS te) := by
  refine ⟨fun pins s σ H Q I h => ?_⟩
  refine Subscript_ (thn (he.run pins s σ H _ I h) fun v s1 ⟨x, H1, I1, r1, q1⟩ => ?_)
  obtain ⟨z, ex, hz, q⟩ := q1
  subst ex
  obtain ⟨t, rfl⟩ := r1
  have hst : PO X (some (.UnaryOp .USub (.Constant (.int 1) k p1) p2)) (tPart (tUn (rU fun i => .int (-i)) (tC (.int 1)))) := po_some (pe_un un_neg pe_int)
  refine wpAny_Slice (thn (po_none.run pins s1 σ H1 (fun o H2 => o = none ∧ H2 = H1) I1 ⟨rfl, rfl⟩) fun vl s2 ⟨l, H2, I2, pl, el, e2⟩ => ?_)
  subst el e2
  refine thn (po_none.run pins s2 σ H2 (fun o H3 => o = none ∧ H3 = H2) I2 ⟨rfl, rfl⟩) fun vu s3 ⟨u, H3, I3, pu, eu, e3⟩ => ?_
  subst eu e3
  refine thn (hst.run pins s3 σ H3 (fun o H4 => o = some (-1) ∧ H4 = H3) I3 ⟨1, rfl, -1, rfl, rfl, rfl⟩) fun vs s4 ⟨o, H4, I4, ps, eo, e4⟩ => ?_
  subst eo e4
  have I5 : Inv X pins σ H4 { s4 with heap := s4.heap.push { cls := .type "slice", data := .fields #[vl, vu, vs] } } := I4.kept (t' := s4.toks) fun b ob q => Heap.get?_push_of_some _ q
  obtain ⟨l, rfl, hl⟩ := IsPart.raw pl
  obtain ⟨u, rfl, hu⟩ := IsPart.raw pu
  obtain ⟨w, rfl, hw⟩ := IsPart.raw ps
  cases l with
  | some l => cases hl
  | none =>
  cases u with
  | some u => cases hu
  | none =>
  cases w with
  | none => cases hw
  | some w =>
  obtain ⟨w1, w2⟩ := w
  have ew : w1 = -1 := by
    have : some w1 = some (-1 : Int) := hw
    exact Option.some.inj this
  subst ew
  refine tail_any (ops := [.ref s4.heap.objs.size, .str z t]) (typeIs_str _ _ _) F.slot_str_getitem.lookup ?_ (by with_unfolding_all rfl)
  refine wpAny_getItem_str_slice (l := none) (u := none) (st := some (-1, w2)) ⟨_, Heap.get?_push_size _ rfl, rfl, rfl⟩ rfl ?_
  have hc : ¬ ((((some ((-1 : Int), w2)).map (·.1)).getD 1 == 1 && (slicePicked z none none (some (-1, w2))).length == z.length) = true) := by
    have : (((some ((-1 : Int), w2)).map (·.1)).getD 1 == 1) = false := rfl
    rw [this]
    simp
  have hl := step_rev_list z w2
  have hn := step_rev_len z w2
  unfold Txt.sliceBy at hl hn
  rw [if_neg hc] at hl hn
  unfold sliceMade
  rw [if_neg hc]
  refine ⟨?_, .str _, H4, I5.tok _, ⟨_, rfl⟩, q _ ?_ (Nat.le_of_eq hn)⟩
  · show (⟨((slicePicked z none none (some (-1, w2))).filterMap (z.cps[·]?)).toArray⟩ : Str).length ≤ sizeLine
    rw [hn]
    exact hz
  · intro c hcm
    rw [hl] at hcm
    obtain ⟨k, hk, rfl⟩ := List.mem_map.mp hcm
    have hk' := List.mem_range.mp hk
    have hlt : z.length - 1 - k < z.cps.size := by
      have : z.length = z.cps.size := rfl
      omega
    have e : z.cps.getD (z.length - 1 - k) 0 = z.cps[z.length - 1 - k] := by simp [Array.getD, hlt]
    rw [e]
    simp
end Ver
namespace Ver
/-! ### numbers of a list in a stretch -/
theorem card_le : ∀ (n a : Nat) (T : List Nat), T.Nodup → (∀ x ∈ T, a ≤ x ∧ x < a + n) → T.length ≤ n
  | 0, a, T, _, h => by
    cases T with
    | nil => exact Nat.le_refl 0
    | cons x r =>
      have := h x (List.mem_cons_self ..)
      omega
  | n + 1, a, T, nd, h => by
    by_cases hm : a + n ∈ T
    · have e := List.length_erase_of_mem hm
      have ih := card_le n a (T.erase (a + n)) (nd.erase _) fun x hx => by
        have h1 := h x (List.mem_of_mem_erase hx)
        have h2 : x ≠ a + n := fun q => by
          rw [q] at hx
          exact nd.not_mem_erase hx
        omega
      omega
    · have ih := card_le n a T nd fun x hx => by
        have h1 := h x hx
        have h2 : x ≠ a + n := fun q => hm (q ▸ hx)
        omega
      omega
/-- how many of T are below v -/
def bel (T : List Nat) (v : Nat) : Nat := T.countP (fun x => decide (x < v))
theorem bel_le {T : List Nat} (nd : T.Nodup) (v : Nat) : bel T v ≤ v := by
  unfold bel
  rw [List.countP_eq_length_filter]
  have := card_le v 0 (T.filter fun x => decide (x < v)) (nd.filter _) fun x hx => by
    have := of_decide_eq_true (List.mem_filter.mp hx).2
    omega
  exact this
theorem bel_step {T : List Nat} (nd : T.Nodup) {x y : Nat} (h : x < y) (hx : x ∉ T) : bel T y ≤ bel T x + (y - x - 1) := by
  have e : bel T y = bel T x + (T.filter fun z => decide (x < z ∧ z < y)).length := by
    unfold bel
    rw [← List.countP_eq_length_filter]
    clear nd
    induction T with
    | nil => rfl
    | cons a r ih =>
      have ih := ih fun q => hx (List.mem_cons_of_mem _ q)
      have ha : a ≠ x := fun q => hx (q ▸ List.mem_cons_self ..)
      rw [List.countP_cons, List.countP_cons, List.countP_cons, ih]
      by_cases c1 : a < x
      · rw [if_pos (decide_eq_true (show a < y by omega)), if_pos (decide_eq_true c1), if_neg (by simp; omega)]
        omega
      · by_cases c2 : a < y
        · rw [if_pos (decide_eq_true c2), if_neg (by simpa using c1), if_pos (decide_eq_true (show x < a ∧ a < y by omega))]
          omega
        · rw [if_neg (by simpa using c2), if_neg (by simpa using c1), if_neg (by simp; omega)]
          omega
  have := card_le (y - x - 1) (x + 1) (T.filter fun z => decide (x < z ∧ z < y)) (nd.filter _) fun z hz => by
    have := of_decide_eq_true (List.mem_filter.mp hz).2
    omega
  omega
/-- the free number of x among those that T leaves is below that of y -/
theorem bel_lt {T : List Nat} (nd : T.Nodup) {x y : Nat} (h : x < y) (hx : x ∉ T) : x - bel T x < y - bel T y := by
  have h1 := bel_step nd h hx
  have h2 := bel_le nd x
  omega
theorem bel_all {T : List Nat} {v : Nat} (h : ∀ x ∈ T, x < v) : bel T v = T.length := by
  unfold bel
  exact List.countP_eq_length.mpr fun x hx => decide_eq_true (h x hx)
/-- x is among the free ones below v -/
theorem bel_room {T : List Nat} (nd : T.Nodup) {x v : Nat} (h : x < v) (hx : x ∉ T) (hT : ∀ z ∈ T, z < v) : x - bel T x < v - T.length := by
  have := bel_lt nd h hx
  rw [bel_all hT] at this
  exact this
/-! ### rows, pieces -/
abbrev Rw := List (Nat × Nat)
def pcs (rs : Rw) : List (List Nat) := rs.foldl (fun ps r => ps ++ [ps.getD r.1 [] ++ [r.2]]) [[]]
theorem pcs_snoc (rs : Rw) (r : Nat × Nat) : pcs (rs ++ [r]) = pcs rs ++ [(pcs rs).getD r.1 [] ++ [r.2]] := by
  unfold pcs
  rw [List.foldl_append]
  rfl
theorem snoc_ind {α : Type} {M : List α → Prop} (h0 : M []) (hs : ∀ l a, M l → M (l ++ [a])) (l : List α) : M l := by
  have h : ∀ n (l : List α), l.length = n → M l := by
    intro n
    induction n with
    | zero =>
      intro l hl
      rw [List.eq_nil_of_length_eq_zero hl]
      exact h0
    | succ n ih =>
      intro l hl
      have hne : l ≠ [] := fun q => by rw [q] at hl; cases hl
      have e := (List.dropLast_concat_getLast hne).symm
      rw [e]
      refine hs _ _ (ih _ ?_)
      rw [List.length_dropLast, hl]
      rfl
  exact h _ l rfl
theorem pcs_len (rs : Rw) : (pcs rs).length = rs.length + 1 := by
  induction rs using snoc_ind with
  | h0 => rfl
  | hs l a ih => rw [pcs_snoc, List.length_append, ih, List.length_append]; rfl
structure RowsOk (al : List Nat) (rs : Rw) : Prop where
  low : ∀ (i p c : Nat), rs[i]? = some (p, c) → p ≤ i ∧ c ∈ al
  nd : rs.Nodup
theorem RowsOk.init {al : List Nat} {rs : Rw} {r : Nat × Nat} (h : RowsOk al (rs ++ [r])) : RowsOk al rs := by
  refine ⟨fun i p c e => h.low i p c ?_, (List.nodup_append.mp h.nd).1⟩
  rw [List.getElem?_append_left (List.getElem?_eq_some_iff.mp e).1]
  exact e
theorem RowsOk.last {al : List Nat} {rs : Rw} {p c : Nat} (h : RowsOk al (rs ++ [(p, c)])) : p ≤ rs.length ∧ c ∈ al ∧ (p, c) ∉ rs := by
  have h1 := h.low rs.length p c (by simp)
  refine ⟨h1.1, h1.2, fun hm => ?_⟩
  have := (List.nodup_append.mp h.nd).2.2 (p, c) hm (p, c) (List.mem_singleton.mpr rfl)
  exact this rfl
theorem RowsOk.snoc {al : List Nat} {rs : Rw} {p c : Nat} (h : RowsOk al rs) (h1 : p ≤ rs.length) (h2 : c ∈ al) (h3 : (p, c) ∉ rs) : RowsOk al (rs ++ [(p, c)]) := by
  refine ⟨fun i q d e => ?_, List.nodup_append.mpr ⟨h.nd, by simp, ?_⟩⟩
  · by_cases hi : i < rs.length
    · rw [List.getElem?_append_left hi] at e
      exact h.low i q d e
    · rw [List.getElem?_append_right (by omega)] at e
      have hz : i - rs.length = 0 := by
        have := (List.getElem?_eq_some_iff.mp e).1
        simp at this
        omega
      rw [hz] at e
      cases e
      exact ⟨by omega, h2⟩
  · intro a ha b hb
    rw [List.mem_singleton.mp hb]
    intro q
    exact h3 (q ▸ ha)
theorem getD_mem {l : List (List Nat)} {i : Nat} (h : i < l.length) : l.getD i [] ∈ l := by
  rw [List.getD_eq_getElem?_getD, List.getElem?_eq_getElem h]
  exact List.getElem_mem h
theorem getD_inj {l : List (List Nat)} (nd : l.Nodup) {i j : Nat} (hi : i < l.length) (hj : j < l.length) (h : l.getD i [] = l.getD j []) : i = j := by
  rw [List.getD_eq_getElem?_getD, List.getD_eq_getElem?_getD, List.getElem?_eq_getElem hi, List.getElem?_eq_getElem hj] at h
  exact (List.getElem_inj nd).mp h
theorem idx_getD {l : List (List Nat)} (nd : l.Nodup) {i : Nat} (h : i < l.length) : l.idxOf (l.getD i []) = i := by
  have hm := getD_mem h
  have h1 := List.idxOf_lt_length_of_mem hm
  refine getD_inj nd h1 h ?_
  rw [List.getD_eq_getElem?_getD, List.getElem?_eq_getElem h1]
  show l[l.idxOf (l.getD i [])] = _
  exact List.getElem_idxOf h1
theorem pcs_zero (rs : Rw) : (pcs rs).getD 0 [] = [] := by
  induction rs using snoc_ind with
  | h0 => rfl
  | hs l a ih =>
    rw [pcs_snoc, List.getD_eq_getElem?_getD, List.getElem?_append_left (by rw [pcs_len]; omega), ← List.getD_eq_getElem?_getD]
    exact ih
/-- the piece of parent p with sign c is there just where the row is, and one place further on -/
theorem pcs_facts {al : List Nat} : ∀ rs : Rw, RowsOk al rs → (pcs rs).Nodup ∧ (∀ (i p c : Nat), rs[i]? = some (p, c) → (pcs rs).getD (i + 1) [] = (pcs rs).getD p [] ++ [c]) ∧
    ∀ (p c : Nat), p ≤ rs.length → ((pcs rs).getD p [] ++ [c] ∈ pcs rs ↔ (p, c) ∈ rs) := by
  intro rs
  induction rs using snoc_ind with
  | h0 =>
    intro _
    refine ⟨by simp [pcs], fun i p c h => by simp at h, fun p c hp => ?_⟩
    simp [pcs]
  | hs rs a ih =>
    intro ok
    obtain ⟨q, d⟩ := a
    obtain ⟨nd, rows, ex⟩ := ih ok.init
    obtain ⟨hq, _, hn⟩ := ok.last
    have hnew : (pcs rs).getD q [] ++ [d] ∉ pcs rs := fun h => hn ((ex q d hq).mp h)
    have hl := pcs_len rs
    have nd2 : (pcs (rs ++ [(q, d)])).Nodup := by
      rw [pcs_snoc]
      exact List.nodup_append.mpr ⟨nd, by simp, fun x hx y hy e => hnew (by rw [List.mem_singleton.mp hy] at e; exact e ▸ hx)⟩
    have old : ∀ k, k ≤ rs.length → (pcs (rs ++ [(q, d)])).getD k [] = (pcs rs).getD k [] := fun k hk => by
      rw [pcs_snoc, List.getD_eq_getElem?_getD, List.getElem?_append_left (by omega), ← List.getD_eq_getElem?_getD]
    have new : (pcs (rs ++ [(q, d)])).getD (rs.length + 1) [] = (pcs rs).getD q [] ++ [d] := by
      rw [pcs_snoc, List.getD_eq_getElem?_getD, List.getElem?_append_right (by omega), hl]
      simp
    refine ⟨nd2, fun i p c h => ?_, fun p c hp => ?_⟩
    · by_cases hi : i < rs.length
      · rw [List.getElem?_append_left hi] at h
        have hp := (ok.init.low i p c h).1
        rw [old _ (by omega), old _ (by omega)]
        exact rows i p c h
      · have hi2 : i = rs.length := by
          have := (List.getElem?_eq_some_iff.mp h).1
          simp at this
          omega
        subst hi2
        have e : (q, d) = (p, c) := by simpa using h
        cases e
        rw [new, old _ hq]
    · by_cases hp2 : p ≤ rs.length
      · rw [old _ hp2, pcs_snoc, List.mem_append, List.mem_append, ex p c hp2, List.mem_singleton, List.mem_singleton]
        refine or_congr Iff.rfl ⟨fun h => ?_, fun h => ?_⟩
        · obtain ⟨e1, e2⟩ := List.append_inj' h rfl
          have := getD_inj nd (by omega) (by omega) e1
          cases e2
          rw [this]
        · cases h
          rfl
      · have e : p = rs.length + 1 := by
          rw [List.length_append] at hp
          simp at hp
          omega
        subst e
        rw [new]
        constructor
        · intro h
          -- a piece one longer than the last one
          exfalso
          rw [pcs_snoc, List.mem_append, List.mem_singleton] at h
          rcases h with h | h
          · -- its beginning would be a piece of the old ones
            obtain ⟨j, hj, ej⟩ := List.mem_iff_getElem.mp h
            cases j with
            | zero =>
              have e0 : (pcs rs)[0] = [] := by
                have h0 : (pcs rs).getD 0 [] = [] := pcs_zero rs
                rw [List.getD_eq_getElem?_getD, List.getElem?_eq_getElem hj] at h0
                exact h0
              rw [e0] at ej
              simp at ej
            | succ j =>
              have hj2 : j < rs.length := by omega
              have hg : rs[j]? = some ((rs[j]).1, (rs[j]).2) := List.getElem?_eq_getElem hj2
              have hrow := rows j _ _ hg
              rw [List.getD_eq_getElem?_getD, List.getElem?_eq_getElem hj] at hrow
              have e3 : (pcs rs)[j + 1] = (pcs rs).getD (rs[j]).1 [] ++ [(rs[j]).2] := hrow
              rw [e3] at ej
              obtain ⟨e1, _⟩ := List.append_inj' ej rfl
              have hp' := (ok.init.low j _ _ hg).1
              refine hnew ?_
              rw [← e1]
              exact getD_mem (by omega)
          · have := congrArg List.length h
            simp at this
        · intro h
          exfalso
          rcases List.mem_append.mp h with h | h
          · obtain ⟨j, hj⟩ := List.mem_iff_getElem?.mp h
            have := (ok.init.low j _ _ hj).1
            have := (List.getElem?_eq_some_iff.mp hj).1
            omega
          · have h2 := List.mem_singleton.mp h
            have : rs.length + 1 = q := congrArg Prod.fst h2
            omega
end Ver
namespace Ver
/-! ### the cut -/
def cutStep (s : Rw × Nat) (c : Nat) : Rw × Nat := if (s.2, c) ∈ s.1 then (s.1, s.1.idxOf (s.2, c) + 1) else (s.1 ++ [(s.2, c)], 0)
def cutW (w : List Nat) : Rw × Nat := w.foldl cutStep ([], 0)
theorem cut_snoc (w : List Nat) (c : Nat) : cutW (w ++ [c]) = cutStep (cutW w) c := by
  unfold cutW
  rw [List.foldl_append]
  rfl
structure CutOk (al w : List Nat) (s : Rw × Nat) : Prop where
  ok : RowsOk al s.1
  low : s.2 ≤ s.1.length
  word : w = (pcs s.1).flatten ++ (pcs s.1).getD s.2 []
  few : s.1.length ≤ w.length
theorem idx_row {rs : Rw} {r : Nat × Nat} (h : r ∈ rs) : rs.idxOf r < rs.length ∧ rs[rs.idxOf r]? = some r := by
  have h1 := List.idxOf_lt_length_of_mem h
  refine ⟨h1, ?_⟩
  rw [List.getElem?_eq_getElem h1, List.getElem_idxOf h1]
theorem cut_ok {al : List Nat} (w : List Nat) (h : ∀ c ∈ w, c ∈ al) : CutOk al w (cutW w) := by
  induction w using snoc_ind with
  | h0 => exact ⟨⟨fun i p c h => by simp [cutW] at h, List.nodup_nil⟩, Nat.le_refl 0, by simp [cutW, pcs], Nat.le_refl 0⟩
  | hs w c ih0 =>
    have ih := ih0 fun d hd => h d (List.mem_append_left _ hd)
    have hc : c ∈ al := h c (List.mem_append_right _ (List.mem_singleton.mpr rfl))
    rw [cut_snoc]
    generalize cutW w = s at ih ⊢
    obtain ⟨rs, p⟩ := s
    obtain ⟨ok, low, word, few⟩ := ih
    have low : p ≤ rs.length := low
    obtain ⟨nd, rows, ex⟩ := pcs_facts rs ok
    have word : w = (pcs rs).flatten ++ (pcs rs).getD p [] := word
    have few : rs.length ≤ w.length := few
    unfold cutStep
    by_cases hm : (p, c) ∈ rs
    · rw [if_pos hm]
      obtain ⟨h1, h2⟩ := idx_row hm
      refine ⟨ok, h1, ?_, ?_⟩
      · show w ++ [c] = (pcs rs).flatten ++ (pcs rs).getD (rs.idxOf (p, c) + 1) []
        rw [rows _ p c h2, word, List.append_assoc]
      · show rs.length ≤ (w ++ [c]).length
        rw [List.length_append]
        omega
    · rw [if_neg hm]
      refine ⟨ok.snoc low hc hm, Nat.zero_le _, ?_, ?_⟩
      · show w ++ [c] = (pcs (rs ++ [(p, c)])).flatten ++ (pcs (rs ++ [(p, c)])).getD 0 []
        rw [pcs_zero, pcs_snoc, List.flatten_append, word]
        simp
      · show (rs ++ [(p, c)]).length ≤ (w ++ [c]).length
        rw [List.length_append, List.length_append]
        show rs.length + 1 ≤ w.length + 1
        omega
theorem cut_inj {al w v : List Nat} (hw : ∀ c ∈ w, c ∈ al) (hv : ∀ c ∈ v, c ∈ al) (h : cutW w = cutW v) : w = v := by
  rw [(cut_ok w hw).word, (cut_ok v hv).word, h]
/-! ### places -/
/-- an alphabet: its signs ascend -/
structure Alf (al : List Nat) : Prop where
  asc : al.Pairwise (· < ·)
  pos : 1 ≤ al.length
  six : al.length ≤ 6
  let' : ∀ c ∈ al, (48 ≤ c ∧ c ≤ 57) ∨ (97 ≤ c ∧ c ≤ 122)
theorem Alf.nd {al : List Nat} (h : Alf al) : al.Nodup := h.asc.imp fun h => Nat.ne_of_lt h
theorem idx_lt {al : List Nat} (h : al.Pairwise (· < ·)) {c d : Nat} (hc : c ∈ al) (hd : d ∈ al) : c < d ↔ al.idxOf c < al.idxOf d := by
  have h1 := List.idxOf_lt_length_of_mem hc
  have h2 := List.idxOf_lt_length_of_mem hd
  have e1 := List.getElem_idxOf h1
  have e2 := List.getElem_idxOf h2
  have key : ∀ i j (hi : i < al.length) (hj : j < al.length), i < j → al[i] < al[j] := fun i j hi hj hij => List.pairwise_iff_getElem.mp h i j hi hj hij
  constructor
  · intro hcd
    rcases Nat.lt_trichotomy (al.idxOf c) (al.idxOf d) with q | q | q
    · exact q
    · have : c = d := by rw [← e1, ← e2]; simp only [q]
      omega
    · have := key _ _ h2 h1 q
      rw [e1, e2] at this
      omega
  · intro q
    have := key _ _ h1 h2 q
    rw [e1, e2] at this
    exact this
def plc (al : List Nat) (r : Nat × Nat) : Nat := r.1 * al.length + al.idxOf r.2
theorem plc_lt {al : List Nat} {p c k : Nat} (hc : c ∈ al) (hp : p ≤ k) : plc al (p, c) < (k + 1) * al.length := by
  have h1 := List.idxOf_lt_length_of_mem hc
  have h2 : p * al.length ≤ k * al.length := Nat.mul_le_mul_right _ hp
  unfold plc
  rw [Nat.add_mul, Nat.one_mul]
  show p * al.length + al.idxOf c < _
  omega
def rlt (a b : Nat × Nat) : Prop := a.1 < b.1 ∨ a.1 = b.1 ∧ a.2 < b.2
theorem plc_mono {al : List Nat} (h : al.Pairwise (· < ·)) {a b : Nat × Nat} (ha : a.2 ∈ al) (hb : b.2 ∈ al) (hl : rlt a b) : plc al a < plc al b := by
  rcases hl with hl | ⟨h1, h2⟩
  · have h1 := plc_lt (p := a.1) ha (Nat.le_refl a.1)
    have h2 : (a.1 + 1) * al.length ≤ b.1 * al.length := Nat.mul_le_mul_right _ hl
    unfold plc at h1 ⊢
    show a.1 * al.length + al.idxOf a.2 < b.1 * al.length + al.idxOf b.2
    have h1 : a.1 * al.length + al.idxOf a.2 < (a.1 + 1) * al.length := h1
    omega
  · have := (idx_lt h ha hb).mp h2
    unfold plc
    rw [h1]
    omega
theorem rlt_tri {a b : Nat × Nat} (h : a ≠ b) : rlt a b ∨ rlt b a := by
  obtain ⟨a1, a2⟩ := a
  obtain ⟨b1, b2⟩ := b
  unfold rlt
  rcases Nat.lt_trichotomy a1 b1 with q | q | q
  · exact .inl (.inl q)
  · subst q
    rcases Nat.lt_trichotomy a2 b2 with q | q | q
    · exact .inl (.inr ⟨rfl, q⟩)
    · subst q
      exact absurd rfl h
    · exact .inr (.inr ⟨rfl, q⟩)
  · exact .inr (.inl q)
theorem plc_inj {al : List Nat} (h : al.Pairwise (· < ·)) {a b : Nat × Nat} (ha : a.2 ∈ al) (hb : b.2 ∈ al) (e : plc al a = plc al b) : a = b := by
  refine Classical.byContradiction fun hn => ?_
  rcases rlt_tri hn with q | q
  · have := plc_mono h ha hb q
    omega
  · have := plc_mono h hb ha q
    omega
def rowAt (rs : Rw) (k : Nat) : Nat × Nat := rs.getD k (0, 0)
theorem rowAt_get {rs : Rw} {k : Nat} (h : k < rs.length) : rs[k]? = some (rowAt rs k) := by
  unfold rowAt
  rw [List.getD_eq_getElem?_getD, List.getElem?_eq_getElem h]
  rfl
def pls (al : List Nat) (rs : Rw) : List Nat := rs.map (plc al)
def pnum (al : List Nat) (rs : Rw) (k : Nat) : Nat := plc al (rowAt rs k) - bel (pls al (rs.take k)) (plc al (rowAt rs k))
theorem row_ok {al : List Nat} {rs : Rw} (h : RowsOk al rs) {k : Nat} (hk : k < rs.length) : (rowAt rs k).1 ≤ k ∧ (rowAt rs k).2 ∈ al := h.low k _ _ (rowAt_get hk)
theorem RowsOk.take {al : List Nat} {rs : Rw} (h : RowsOk al rs) (k : Nat) : RowsOk al (rs.take k) := by
  refine ⟨fun i p c e => h.low i p c ?_, h.nd.sublist (List.take_sublist k rs)⟩
  rw [List.getElem?_take] at e
  split at e
  · exact e
  · cases e
theorem mem_row {al : List Nat} {rs : Rw} (h : RowsOk al rs) {r : Nat × Nat} (hr : r ∈ rs) : r.1 + 1 ≤ rs.length ∧ r.2 ∈ al := by
  obtain ⟨j, hj⟩ := List.mem_iff_getElem?.mp hr
  have h1 := h.low j r.1 r.2 hj
  have h2 := (List.getElem?_eq_some_iff.mp hj).1
  exact ⟨by omega, h1.2⟩
theorem pls_nd {al : List Nat} (ha : al.Pairwise (· < ·)) {rs : Rw} (h : RowsOk al rs) : (pls al rs).Nodup := by
  unfold pls
  refine List.pairwise_map.mpr ?_
  have h2 := h.nd
  refine List.Pairwise.imp_of_mem (fun {a b} ma mb hne e => hne ?_) h2
  exact plc_inj ha (mem_row h ma).2 (mem_row h mb).2 e
theorem pls_room {al : List Nat} {rs : Rw} (h : RowsOk al rs) : ∀ z ∈ pls al rs, z < rs.length * al.length := fun z hz => by
  obtain ⟨r, hr, rfl⟩ := List.mem_map.mp hz
  obtain ⟨h1, h2⟩ := mem_row h hr
  have := plc_lt (p := r.1) (k := r.1) h2 (Nat.le_refl _)
  exact Nat.lt_of_lt_of_le this (Nat.mul_le_mul_right _ h1)
theorem free_row {al : List Nat} (ha : al.Pairwise (· < ·)) {rs : Rw} (h : RowsOk al rs) {k : Nat} (hk : k < rs.length) : plc al (rowAt rs k) ∉ pls al (rs.take k) := fun hm => by
  obtain ⟨r, hr, e⟩ := List.mem_map.mp hm
  have h1 := (mem_row (h.take k) hr).2
  have e2 := plc_inj ha h1 (row_ok h hk).2 e
  obtain ⟨j, hj⟩ := List.mem_iff_getElem?.mp hr
  have hjk : j < k := by
    have := (List.getElem?_eq_some_iff.mp hj).1
    rw [List.length_take] at this
    omega
  rw [List.getElem?_take, if_pos hjk] at hj
  have hg := rowAt_get hk
  rw [e2] at hj
  obtain ⟨a1, b1⟩ := List.getElem?_eq_some_iff.mp hj
  obtain ⟨a2, b2⟩ := List.getElem?_eq_some_iff.mp hg
  have := (List.getElem_inj h.nd).mp (b1.trans b2.symm)
  omega
def opt (al : List Nat) (k : Nat) : Nat := (k + 1) * al.length - k + 1
theorem pnum_lt {al : List Nat} (ha : al.Pairwise (· < ·)) (hp : 1 ≤ al.length) {rs : Rw} (h : RowsOk al rs) {k : Nat} (hk : k < rs.length) : 1 + pnum al rs k < opt al k := by
  have hr := row_ok h hk
  have hl := plc_lt (p := (rowAt rs k).1) hr.2 hr.1
  have hn := pls_nd ha (h.take k)
  have hf := free_row ha h hk
  have hT : ∀ z ∈ pls al (rs.take k), z < (k + 1) * al.length := fun z hz => by
    have h1 := pls_room (h.take k) z hz
    rw [List.length_take, Nat.min_eq_left (by omega)] at h1
    exact Nat.lt_of_lt_of_le h1 (Nat.mul_le_mul_right _ (by omega))
  have key := bel_room hn (x := plc al (rowAt rs k)) hl hf hT
  have e : (pls al (rs.take k)).length = k := by
    unfold pls
    rw [List.length_map, List.length_take]
    omega
  rw [e] at key
  unfold pnum opt
  omega
/-! ### the numbers of the block -/
def num (al : List Nat) (rs : Rw) (k : Nat) : Nat := if k < rs.length then 1 + pnum al rs k else 0
theorem opt_two {al : List Nat} (hp : 1 ≤ al.length) (k : Nat) : 2 ≤ opt al k := by
  unfold opt
  have : (k + 1) * 1 ≤ (k + 1) * al.length := Nat.mul_le_mul_left _ hp
  omega
theorem num_lt {al : List Nat} (ha : al.Pairwise (· < ·)) (hp : 1 ≤ al.length) {rs : Rw} (h : RowsOk al rs) {k : Nat} : num al rs k < opt al k := by
  unfold num
  split
  · exact pnum_lt ha hp h (by assumption)
  · have := opt_two hp k
    omega
theorem num_same {al : List Nat} {rs rt : Rw} {s : Nat} (e : rs.take s = rt.take s) (h1 : s ≤ rs.length) (h2 : s ≤ rt.length) {k : Nat} (hk : k < s) : num al rs k = num al rt k := by
  unfold num pnum
  have er : rowAt rs k = rowAt rt k := by
    unfold rowAt
    rw [List.getD_eq_getElem?_getD, List.getD_eq_getElem?_getD]
    have a : (rs.take s)[k]? = rs[k]? := by rw [List.getElem?_take, if_pos hk]
    have b : (rt.take s)[k]? = rt[k]? := by rw [List.getElem?_take, if_pos hk]
    rw [← a, ← b, e]
  have et : rs.take k = rt.take k := by
    have a : (rs.take s).take k = rs.take k := by rw [List.take_take, Nat.min_eq_left (by omega)]
    have b : (rt.take s).take k = rt.take k := by rw [List.take_take, Nat.min_eq_left (by omega)]
    rw [← a, ← b, e]
  rw [if_pos (by omega), if_pos (by omega), er, et]
def wid (n : Nat) : Nat := (bitsOf (n : Int)).toNat
def nbl (n m : Nat) : List Nat := nbL n (wid m)
theorem nbl_ok {n m : Nat} (h : n < m) : Nb (nbl n m) (n : Int) (wid m) := by
  have := bits_lt (n := (n : Int)) (m := (m : Int)) (by omega) (by omega)
  rw [Int.toNat_natCast] at this
  exact nb_ok this
def prt (al : List Nat) (rs : Rw) (k : Nat) : List Nat := nbl (num al rs k) (opt al k)
def pre (al : List Nat) (rs : Rw) : Nat → List Nat
  | 0 => []
  | k + 1 => pre al rs k ++ prt al rs k
def rch (al : List Nat) : Nat → Nat
  | 0 => 0
  | k + 1 => rch al k + wid (opt al k)
def blk (al : List Nat) (s : Rw × Nat) : List Nat := pre al s.1 (s.1.length + 1) ++ nbl s.2 (s.1.length + 1)
theorem pre_len {al : List Nat} (ha : al.Pairwise (· < ·)) (hp : 1 ≤ al.length) {rs : Rw} (h : RowsOk al rs) : ∀ k, (pre al rs k).length = rch al k
  | 0 => rfl
  | k + 1 => by
    show (pre al rs k ++ nbl (num al rs k) (opt al k)).length = rch al k + wid (opt al k)
    rw [List.length_append, pre_len ha hp h k, (nbl_ok (num_lt ha hp h)).len]
theorem pre_same {al : List Nat} {rs rt : Rw} {s : Nat} (e : rs.take s = rt.take s) (h1 : s ≤ rs.length) (h2 : s ≤ rt.length) : ∀ k, k ≤ s → pre al rs k = pre al rt k
  | 0, _ => rfl
  | k + 1, hk => by
    show pre al rs k ++ prt al rs k = pre al rt k ++ prt al rt k
    rw [pre_same e h1 h2 k (by omega)]
    unfold prt
    rw [num_same e h1 h2 (by omega)]
theorem pre_split {al : List Nat} {rs : Rw} {s : Nat} : ∀ n, s < n → ∃ U, pre al rs n = pre al rs s ++ (prt al rs s ++ U)
  | 0, h => absurd h (Nat.not_lt_zero _)
  | n + 1, h => by
    by_cases c : s = n
    · subst c
      exact ⟨[], by show pre al rs s ++ prt al rs s = _; simp⟩
    · obtain ⟨U, e⟩ := pre_split (al := al) (rs := rs) (s := s) n (by omega)
      refine ⟨U ++ prt al rs n, ?_⟩
      show pre al rs n ++ prt al rs n = _
      rw [e]
      simp
theorem blk_len {al : List Nat} (ha : al.Pairwise (· < ·)) (hp : 1 ≤ al.length) {rs : Rw} (h : RowsOk al rs) {t : Nat} (ht : t ≤ rs.length) : (blk al (rs, t)).length = rch al (rs.length + 1) + wid (rs.length + 1) := by
  show (pre al rs (rs.length + 1) ++ nbl t (rs.length + 1)).length = _
  rw [List.length_append, pre_len ha hp h, (nbl_ok (show t < rs.length + 1 by omega)).len]
/-- A and B agree on R signs, and differ within the next W: there A is before B just where less -/
structure Parted (A B : List Nat) (R W : Nat) (less : Bool) : Prop where
  ex : ∃ P X Y U V, A = P ++ (X ++ U) ∧ B = P ++ (Y ++ V) ∧ P.length = R ∧ X.length = W ∧ Y.length = W ∧ if less = true then X < Y else Y < X
theorem nbl_lex {n k m : Nat} (hn : n < m) (hk : k < m) (h : n < k) : nbl n m < nbl k m := by
  have a := nbl_ok hn
  have b := nbl_ok hk
  exact lex_of_val _ _ (a.len.trans b.len.symm) a.digs b.digs (by rw [a.v, b.v]; omega)
theorem parted_of {al : List Nat} {P U V : List Nat} {n k m R : Nat} {less : Bool} (hn : n < m) (hk : k < m) (hP : P.length = R) (h : if less = true then n < k else k < n) : Parted (P ++ (nbl n m ++ U)) (P ++ (nbl k m ++ V)) R (wid m) less := by
  refine ⟨P, nbl n m, nbl k m, U, V, rfl, rfl, hP, (nbl_ok hn).len, (nbl_ok hk).len, ?_⟩
  cases less with
  | true => exact nbl_lex hn hk h
  | false => exact nbl_lex hk hn h
/-- the rows agree up to s, and there one ends or they differ -/
theorem parted_rows {al : List Nat} (A : Alf al) {rs rt : Rw} {t u s : Nat} (h1 : RowsOk al rs) (h2 : RowsOk al rt) (e : rs.take s = rt.take s) (l1 : s ≤ rs.length) (l2 : s ≤ rt.length) {less : Bool}
    (h : if less = true then num al rs s < num al rt s else num al rt s < num al rs s) : Parted (blk al (rs, t)) (blk al (rt, u)) (rch al s) (wid (opt al s)) less := by
  obtain ⟨U, e1⟩ := pre_split (al := al) (rs := rs) (s := s) (rs.length + 1) (by omega)
  obtain ⟨V, e2⟩ := pre_split (al := al) (rs := rt) (s := s) (rt.length + 1) (by omega)
  have p1 := pre_same (al := al) e l1 l2 s (Nat.le_refl _)
  show Parted (pre al rs (rs.length + 1) ++ nbl t (rs.length + 1)) (pre al rt (rt.length + 1) ++ nbl u (rt.length + 1)) _ _ _
  rw [e1, e2, List.append_assoc, List.append_assoc, List.append_assoc, List.append_assoc, ← p1]
  exact parted_of (al := al) (num_lt A.asc A.pos h1) (num_lt A.asc A.pos h2) (pre_len A.asc A.pos h1 s) h
theorem num_end {al : List Nat} {rs : Rw} : num al rs rs.length = 0 := if_neg (Nat.lt_irrefl _)
theorem num_pos {al : List Nat} {rs : Rw} {k : Nat} (h : k < rs.length) : num al rs k = 1 + pnum al rs k := if_pos h
theorem num_row {al : List Nat} (A : Alf al) {rs rt : Rw} {s : Nat} (h1 : RowsOk al rs) (h2 : RowsOk al rt) (e : rs.take s = rt.take s) (l1 : s < rs.length) (l2 : s < rt.length) (h : rlt (rowAt rs s) (rowAt rt s)) : num al rs s < num al rt s := by
  rw [num_pos l1, num_pos l2]
  unfold pnum
  have k1 := plc_mono A.asc (row_ok h1 l1).2 (row_ok h2 l2).2 h
  have k2 := bel_lt (pls_nd A.asc (h1.take s)) k1 (free_row A.asc h1 l1)
  rw [← e]
  omega
/-- both have the same rows: the tails tell -/
theorem parted_tails {al : List Nat} (A : Alf al) {rs : Rw} {t u : Nat} (h1 : RowsOk al rs) (ht : t ≤ rs.length) (hu : u ≤ rs.length) {less : Bool} (h : if less = true then t < u else u < t) :
    Parted (blk al (rs, t)) (blk al (rs, u)) (rch al (rs.length + 1)) (wid (rs.length + 1)) less := by
  have p := parted_of (al := al) (P := pre al rs (rs.length + 1)) (U := []) (V := []) (n := t) (k := u) (m := rs.length + 1) (R := rch al (rs.length + 1)) (less := less) (by omega) (by omega) (pre_len A.asc A.pos h1 _) h
  rw [List.append_nil, List.append_nil] at p
  exact p
theorem Parted.not_pre {A B : List Nat} {R W : Nat} {less : Bool} (h : Parted A B R W less) : ¬ A <+: B ∧ ¬ B <+: A := by
  obtain ⟨P, X, Y, U, V, rfl, rfl, hP, hX, hY, hl⟩ := h.ex
  have ne : X ≠ Y := fun e => by
    subst e
    cases less with
    | true => exact List.lt_irrefl _ hl
    | false => exact List.lt_irrefl _ hl
  have key : ∀ {X Y U V : List Nat}, X.length = Y.length → P ++ (X ++ U) <+: P ++ (Y ++ V) → X = Y := fun hxy hp => by
    obtain ⟨Z, hz⟩ := hp
    rw [List.append_assoc, List.append_assoc] at hz
    have h2 := List.append_cancel_left hz
    exact (List.append_inj h2 hxy).1
  exact ⟨fun hp => ne (key (hX.trans hY.symm) hp), fun hp => ne (key (hY.trans hX.symm) hp).symm⟩
theorem Parted.cut {A B : List Nat} {R W : Nat} {less : Bool} (h : Parted A B R W less) : R + W ≤ A.length ∧ R + W ≤ B.length ∧ A.take R = B.take R ∧
    (if less = true then (A.drop R).take W < (B.drop R).take W else (B.drop R).take W < (A.drop R).take W) := by
  obtain ⟨P, X, Y, U, V, rfl, rfl, hP, hX, hY, hl⟩ := h.ex
  subst hP
  have t1 : ∀ {Z : List Nat}, (P ++ Z).take P.length = P := fun {Z} => by simp
  have t2 : ∀ {Z : List Nat}, (P ++ Z).drop P.length = Z := fun {Z} => by simp
  have t3 : (X ++ U).take W = X := by rw [← hX]; simp
  have t4 : (Y ++ V).take W = Y := by rw [← hY]; simp
  refine ⟨?_, ?_, ?_, ?_⟩
  · simp only [List.length_append]
    omega
  · simp only [List.length_append]
    omega
  · rw [t1, t1]
  · rw [t2, t2, t3, t4]
    exact hl
theorem rch_mono {al : List Nat} : ∀ {i j : Nat}, i ≤ j → rch al i ≤ rch al j := by
  intro i j h
  induction h with
  | refl => exact Nat.le_refl _
  | @step k _ ih =>
    show rch al i ≤ rch al k + _
    omega
theorem wid_pow {n : Nat} (h : 1 ≤ n) : n ≤ 2 ^ wid n := by
  have := bits_lt (n := ((n - 1 : Nat) : Int)) (m := (n : Int)) (by omega) (by omega)
  rw [Int.toNat_natCast] at this
  unfold wid
  omega
theorem wid_mono {n m : Nat} (h1 : 1 ≤ n) (h : n ≤ m) : wid n ≤ wid m := by
  have hp := wid_pow (show 1 ≤ m by omega)
  have := bits_le (m := (n : Int)) (b := wid m) (by omega) (by
    have e : (2 : Int) ^ wid m = ((2 ^ wid m : Nat) : Int) := by
      rw [Int.natCast_pow]
      rfl
    rw [e]
    omega)
  unfold wid at this ⊢
  omega
theorem wid_two {n : Nat} (h : 2 ≤ n) : 1 ≤ wid n := by
  have hp := wid_pow (show 1 ≤ n by omega)
  cases e : wid n with
  | zero =>
    rw [e] at hp
    simp at hp
    omega
  | succ k => omega
def bln (al : List Nat) (m : Nat) : Nat := rch al (m + 1) + wid (m + 1)
theorem bln_lt {al : List Nat} (hp : 1 ≤ al.length) {m k : Nat} (h : m < k) : bln al m < bln al k := by
  have h1 := rch_mono (al := al) (show m + 2 ≤ k + 1 by omega)
  have h2 := wid_two (opt_two hp (m + 1))
  have h3 := wid_mono (n := m + 1) (m := k + 1) (by omega) (by omega)
  have h4 : rch al (m + 2) = rch al (m + 1) + wid (opt al (m + 1)) := rfl
  unfold bln
  omega
theorem bln_iff {al : List Nat} (hp : 1 ≤ al.length) {m k : Nat} : (bln al m < bln al k ↔ m < k) ∧ (bln al m = bln al k ↔ m = k) := by
  rcases Nat.lt_trichotomy m k with h | h | h
  · have := bln_lt hp h
    omega
  · subst h
    omega
  · have := bln_lt hp h
    omega
/-- what the law computes of two cuts whose rows agree up to s -/
def lR (al : List Nat) (a b : Rw × Nat) (s : Nat) : Nat := if s = a.1.length ∧ s = b.1.length then rch al (s + 1) else rch al s
def lW (al : List Nat) (a b : Rw × Nat) (s : Nat) : Nat := if s = a.1.length ∧ s = b.1.length then wid (s + 1) else wid (opt al s)
def rltb (a b : Nat × Nat) : Bool := decide (a.1 < b.1 ∨ a.1 = b.1 ∧ a.2 < b.2)
def lL (a b : Rw × Nat) (s : Nat) : Bool := if s = a.1.length ∧ s = b.1.length then decide (a.2 < b.2) else if s = a.1.length ∨ s = b.1.length then decide (a.1.length < b.1.length) else rltb (rowAt a.1 s) (rowAt b.1 s)
structure Agree (a b : Rw) (s : Nat) : Prop where
  same : a.take s = b.take s
  l1 : s ≤ a.length
  l2 : s ≤ b.length
  last : s = a.length ∨ s = b.length ∨ rowAt a s ≠ rowAt b s
theorem law_pair {al w v : List Nat} (A : Alf al) (hw : ∀ c ∈ w, c ∈ al) (hv : ∀ c ∈ v, c ∈ al) (ne : w ≠ v) {s : Nat} (g : Agree (cutW w).1 (cutW v).1 s) :
    Parted (blk al (cutW w)) (blk al (cutW v)) (lR al (cutW w) (cutW v) s) (lW al (cutW w) (cutW v) s) (lL (cutW w) (cutW v) s) := by
  have k1 := cut_ok w hw
  have k2 := cut_ok v hv
  have hne : cutW w ≠ cutW v := fun e => ne (cut_inj hw hv e)
  generalize cutW w = a at *
  generalize cutW v = b at *
  obtain ⟨rs, t⟩ := a
  obtain ⟨rt, u⟩ := b
  have o1 : RowsOk al rs := k1.ok
  have o2 : RowsOk al rt := k2.ok
  have t1 : t ≤ rs.length := k1.low
  have t2 : u ≤ rt.length := k2.low
  obtain ⟨same, l1, l2, last⟩ := g
  have l1 : s ≤ rs.length := l1
  have l2 : s ≤ rt.length := l2
  have same : rs.take s = rt.take s := same
  have last : s = rs.length ∨ s = rt.length ∨ rowAt rs s ≠ rowAt rt s := last
  unfold lR lW lL
  show Parted _ _ (if s = rs.length ∧ s = rt.length then rch al (s + 1) else rch al s) (if s = rs.length ∧ s = rt.length then wid (s + 1) else wid (opt al s)) (if s = rs.length ∧ s = rt.length then decide (t < u) else if s = rs.length ∨ s = rt.length then decide (rs.length < rt.length) else rltb (rowAt rs s) (rowAt rt s))
  by_cases c : s = rs.length ∧ s = rt.length
  · rw [if_pos c, if_pos c, if_pos c]
    have er : rs = rt := by
      rw [List.take_of_length_le (by omega), List.take_of_length_le (by omega)] at same
      exact same
    subst er
    have htu : t ≠ u := fun e => hne (by rw [e])
    rw [c.1]
    refine parted_tails A o1 t1 t2 ?_
    by_cases q : t < u
    · rw [if_pos (decide_eq_true q)]
      exact q
    · rw [if_neg (by simpa using q)]
      omega
  · rw [if_neg c, if_neg c, if_neg c]
    refine parted_rows A o1 o2 same l1 l2 ?_
    by_cases d : s = rs.length ∨ s = rt.length
    · rw [if_pos d]
      rcases d with d | d
      · have hlt : rs.length < rt.length := by omega
        rw [if_pos (decide_eq_true hlt)]
        have h0 : num al rs s = 0 := by
          rw [d]
          exact num_end
        rw [h0, num_pos (by omega)]
        omega
      · have hlt : ¬ rs.length < rt.length := by omega
        rw [if_neg (by simpa using hlt)]
        have h0 : num al rt s = 0 := by
          rw [d]
          exact num_end
        rw [h0, num_pos (by omega)]
        omega
    · rw [if_neg d]
      have d1 : s < rs.length := by omega
      have d2 : s < rt.length := by omega
      have hn : rowAt rs s ≠ rowAt rt s := by
        rcases last with z | z | z
        · exact absurd (.inl z) d
        · exact absurd (.inr z) d
        · exact z
      by_cases q : rlt (rowAt rs s) (rowAt rt s)
      · rw [if_pos (show rltb (rowAt rs s) (rowAt rt s) = true from decide_eq_true q)]
        exact num_row A o1 o2 same d1 d2 q
      · rw [if_neg (show ¬ rltb (rowAt rs s) (rowAt rt s) = true from fun h => q (by unfold rltb at h; unfold rlt; exact of_decide_eq_true h))]
        have q2 := (rlt_tri hn).resolve_left q
        exact num_row A o2 o1 same.symm d2 d1 q2
theorem blk_cut_len {al w : List Nat} (A : Alf al) (hw : ∀ c ∈ w, c ∈ al) : (blk al (cutW w)).length = bln al (cutW w).1.length := by
  have k := cut_ok w hw
  exact blk_len A.asc A.pos k.ok k.low
/-- one there is: the rows agree up to some place -/
theorem agree_ex : ∀ (a b : Rw), ∃ s, Agree a b s := by
  intro a b
  have h : ∀ n, n ≤ a.length → n ≤ b.length → a.take n = b.take n → ∃ s, Agree a b s := by
    intro n
    generalize hd : a.length - n = d
    induction d generalizing n with
    | zero => exact fun h1 h2 e => ⟨n, e, h1, h2, .inl (by omega)⟩
    | succ d ih =>
      intro h1 h2 e
      by_cases c : n = b.length
      · exact ⟨n, e, h1, h2, .inr (.inl c)⟩
      · by_cases q : rowAt a n = rowAt b n
        · refine ih (n + 1) (by omega) (by omega) (by omega) ?_
          rw [List.take_add_one, List.take_add_one, e, rowAt_get (by omega), rowAt_get (by omega), q]
        · exact ⟨n, e, h1, h2, .inr (.inr q)⟩
  exact h 0 (Nat.zero_le _) (Nat.zero_le _) rfl
theorem blk_not_pre {al w v : List Nat} (A : Alf al) (hw : ∀ c ∈ w, c ∈ al) (hv : ∀ c ∈ v, c ∈ al) (ne : w ≠ v) : ¬ blk al (cutW w) <+: blk al (cutW v) := by
  obtain ⟨s, g⟩ := agree_ex (cutW w).1 (cutW v).1
  exact (law_pair A hw hv ne g).not_pre.1
end Ver
namespace Ver
open PySem PySem.Spec PyProof.Rows L2 Evl
structure At (K : PySem.W.Frag) (mg : Str → Option Value) (x : Str) (st : Stmt) : Prop where
  ex : ∃ f fd, Fun K x x st f fd ∧ mg x = some (.ref f)
def Has (P : Program) (w : World) (K : PySem.W.Frag) (mg : Str → Option Value) (base : Heap) (x : Str) (st : Stmt) (ps : List Str) (k : Nat) (sp : Sp) : Prop :=
  ∃ f fd, Fun K x x st f fd ∧ FnOk P w K mg base CX0 k f fd ps sp ∧ Binds K fd ps [] ∧ mg x = some (.ref f) ∧ PySem.W.keepIn K (.ref f) = true
/-- an __init__, and the class that it makes -/
structure AtI (K : PySem.W.Frag) (C : Addr) (q : Str) (st : Stmt) : Prop where
  ex : ∃ f fd, Fun K "__init__" q st f fd ∧ Mk K C f
def HasI (P : Program) (w : World) (K : PySem.W.Frag) (mg : Str → Option Value) (base : Heap) (C : Addr) (ps : List Str) (k : Nat) (sp : Sp) : Prop :=
  ∃ f fd, FnOk P w K mg base CX0 k f fd ps sp ∧ Binds K fd ps [] ∧ Mk K C f
/-! ### data of the heap -/
structure RowsAt (H : Hp) (xs : List V) (rs : Rw) : Prop where
  len : xs.length = rs.length
  row : ∀ (i p c : Nat), rs[i]? = some (p, c) → ∃ r, xs[i]? = some (V.ref r) ∧ H r = some (.tup [.int (p : Int), tx [c]])
theorem RowsAt.mono {H H' : Hp} {xs : List V} {rs : Rw} (h : RowsAt H xs rs) (e : Ex H H') : RowsAt H' xs rs := ⟨h.len, fun i p c q => by
  obtain ⟨r, a, b⟩ := h.row i p c q
  exact ⟨r, a, e _ _ b⟩⟩
/-- what is no tuple may change -/
theorem RowsAt.upd {H : Hp} {xs : List V} {rs : Rw} {l : Addr} {o u : HO} (h : RowsAt H xs rs) (hl : H l = some u) (hu : ∀ ys, u ≠ .tup ys) : RowsAt (upd H l o) xs rs := ⟨h.len, fun i p c q => by
  obtain ⟨r, a, b⟩ := h.row i p c q
  refine ⟨r, a, ?_⟩
  rw [upd_ne]
  · exact b
  · intro z
    rw [z, hl] at b
    exact hu _ (Option.some.inj b)⟩
theorem RowsAt.nil {H : Hp} : RowsAt H [] [] := ⟨rfl, fun i p c q => by simp at q⟩
theorem RowsAt.snoc {H : Hp} {xs : List V} {rs : Rw} {r : Addr} {p c : Nat} (h : RowsAt H xs rs) (hr : H r = some (.tup [.int (p : Int), tx [c]])) : RowsAt H (xs ++ [.ref r]) (rs ++ [(p, c)]) := by
  refine ⟨by rw [List.length_append, List.length_append, h.len]; rfl, fun i q d e => ?_⟩
  by_cases hi : i < rs.length
  · rw [List.getElem?_append_left hi] at e
    obtain ⟨r', a, b⟩ := h.row i q d e
    exact ⟨r', by rw [List.getElem?_append_left (by rw [h.len]; exact hi)]; exact a, b⟩
  · have h1 := (List.getElem?_eq_some_iff.mp e).1
    rw [List.length_append] at h1
    have e2 : i = rs.length := by
      simp at h1
      omega
    subst e2
    have e3 : (p, c) = (q, d) := by simpa using e
    cases e3
    refine ⟨r, ?_, hr⟩
    rw [← h.len]
    simp
theorem RowsAt.get {H : Hp} {xs : List V} {rs : Rw} (h : RowsAt H xs rs) {i : Nat} {x : V} (hx : xs[i]? = some x) : i < rs.length ∧ ∃ r, x = .ref r ∧ H r = some (.tup [.int ((rowAt rs i).1 : Int), tx [(rowAt rs i).2]]) := by
  have hi : i < rs.length := by
    rw [← h.len]
    exact (List.getElem?_eq_some_iff.mp hx).1
  refine ⟨hi, ?_⟩
  obtain ⟨r, a, b⟩ := h.row i _ _ (rowAt_get hi)
  rw [a] at hx
  exact ⟨r, (Option.some.inj hx).symm, b⟩
/-! ### promises' shapes -/
def RetU (xs : List V) (H : Hp) (Q : VK) : Prop := ∀ p H2, H p = none → Ex H H2 → H2 p = some (.tup xs) → Q (.ref p) H2
section
variable {K : PySem.W.Frag} {σ : L2.St} {H : Hp} {ta tb te : TE} {t : TT} {tu tz : TS} {D : Ends}
/-! ### texts -/
theorem rc_lenS {l : List Nat} (h : l.length ≤ 100000) : RC (fun vs H Q => ∃ z : Str, vs = [.str z] ∧ z.length ≤ sizeLine ∧ Q (.int (z.length : Int)) H) [tx l] H (.int (l.length : Int)) := fun H1 _ Q q =>
  ⟨SX.S l, rfl, by rw [SX.S_len]; exact sz_of h, by rw [SX.S_len]; exact q H1 (Ex.refl H1)⟩
theorem ev_lenS {l : List Nat} (h : l.length ≤ 100000) (ha : Ev ta σ H (tx l)) : Ev (tCB (fun vs H Q => ∃ z : Str, vs = [.str z] ∧ z.length ≤ sizeLine ∧ Q (.int (z.length : Int)) H) (tCons ta tNil)) σ H (.int (l.length : Int)) := ev_cb (ea_cons ha ea_nil) (rc_lenS h)
theorem rv_ltS {a b : List Nat} : RV (fun x y H Q => ∃ i j : Str, x = .str i ∧ y = .str j ∧ Q (.bl (decide (i.cps.toList < j.cps.toList))) H) (tx a) (tx b) H (.bl (decide (a < b))) := fun H1 _ _ q => ⟨_, _, rfl, rfl, q H1 (Ex.refl H1)⟩
theorem ev_catS {a b : List Nat} (h : a.length + b.length ≤ 100000) (ha : Ev ta σ H (tx a)) (hb : Ev tb σ H (tx b)) : Ev (tOp (fun x y H Q => ∃ i j : Str, x = .str i ∧ y = .str j ∧ i.length + j.length ≤ sizeLine ∧ Q (.str (i ++ j)) H) ta tb) σ H (tx (a ++ b)) :=
  ev_op ha hb fun H1 _ Q q => ⟨_, _, rfl, rfl, by rw [SX.S_len, SX.S_len]; exact sz_of h, by rw [SX.S_cat]; exact q H1 (Ex.refl H1)⟩
theorem et_neS {a b : List Nat} (ha : Ev ta σ H (tx a)) (hb : Ev tb σ H (tx b)) : EvT (tTest (tOp rNe ta tb)) σ H (!decide (a = b)) := et_test (ev_is (ev_op ha hb (rv_ne rfl)) (by rw [tx_dec]))
theorem et_eqS {a b : List Nat} (ha : Ev ta σ H (tx a)) (hb : Ev tb σ H (tx b)) : EvT (tTest (tOp rEq ta tb)) σ H (decide (a = b)) := et_test (ev_is (ev_op ha hb (rv_eq rfl)) (by rw [tx_dec]))
theorem rv_inSign {c : Nat} {l : List Nat} : RV (fun x y H Q => ∃ (c : Nat) (z : Str), x = .str ⟨#[c]⟩ ∧ y = .str z ∧ Q (.bl (decide (c ∈ z.cps.toList))) H) (tx [c]) (tx l) H (.bl (decide (c ∈ l))) := fun H1 _ _ q => ⟨c, SX.S l, rfl, rfl, q H1 (Ex.refl H1)⟩
theorem cutS_all {l : List Nat} {lo hi : Option Int} : cutS (SX.S l) lo hi = SX.S ((l.drop (HT.sIx l.length 0 lo)).take (HT.sIx l.length l.length hi - HT.sIx l.length 0 lo)) := by
  unfold cutS
  rw [SX.S_len]
def cutL (l : List Nat) (lo hi : Option Int) : List Nat := (l.drop (HT.sIx l.length 0 lo)).take (HT.sIx l.length l.length hi - HT.sIx l.length 0 lo)
theorem cutL_from {l : List Nat} (n : Nat) : cutL l (some (n : Int)) none = l.drop n := by
  unfold cutL
  rw [HT.sIx_none, HT.sIx_nat]
  by_cases h : n ≤ l.length
  · rw [Nat.min_eq_left h]
    exact List.take_of_length_le (by rw [List.length_drop]; omega)
  · rw [Nat.min_eq_right (by omega), Nat.sub_self, List.take_zero, List.drop_eq_nil_of_le (by omega)]
theorem cutL_to {l : List Nat} (n : Nat) : cutL l none (some (n : Int)) = l.take n := by
  unfold cutL
  rw [HT.sIx_none, HT.sIx_nat]
  simp only [Nat.sub_zero, List.drop_zero]
  by_cases h : n ≤ l.length
  · rw [Nat.min_eq_left h]
  · rw [Nat.min_eq_right (by omega), List.take_length, List.take_of_length_le (by omega)]
theorem cutL_both {l : List Nat} (a b : Nat) : cutL l (some (a : Int)) (some ((a + b : Nat) : Int)) = (l.drop a).take b := by
  unfold cutL
  rw [HT.sIx_nat, HT.sIx_nat]
  by_cases h : a ≤ l.length
  · rw [Nat.min_eq_left h]
    by_cases h2 : a + b ≤ l.length
    · rw [Nat.min_eq_left h2]
      congr 1
      omega
    · rw [Nat.min_eq_right (by omega), List.take_of_length_le (by rw [List.length_drop]; omega), List.take_of_length_le (by rw [List.length_drop]; omega)]
  · rw [Nat.min_eq_right (by omega), Nat.min_eq_right (by omega), Nat.sub_self, List.take_zero, List.drop_eq_nil_of_le (by omega)]
    simp
theorem cutL_sub {l : List Nat} {lo hi : Option Int} : ∀ c ∈ cutL l lo hi, c ∈ l := fun c h => List.mem_of_mem_drop (List.mem_of_mem_take h)
theorem cutL_len {l : List Nat} {lo hi : Option Int} : (cutL l lo hi).length ≤ l.length := by
  unfold cutL
  rw [List.length_take, List.length_drop]
  omega
theorem ev_slS {l : List Nat} {tl th : TO} {lo hi : Option Int} (hz : l.length ≤ 100000) (h : Ev te σ H (tx l)) (h1 : EvO tl σ H lo) (h2 : EvO th σ H hi) : Ev (tSl rSlS te tl th) σ H (tx (cutL l lo hi)) := fun H1 e Q q =>
  h H1 e _ fun H2 e2 => h1 H2 (e.trans e2) _ fun H3 e3 => h2 H3 ((e.trans e2).trans e3) _ fun H4 e4 =>
    ⟨SX.S l, rfl, by rw [SX.S_len]; exact sz_of hz, by rw [cutS_all]; exact q H4 ((e2.trans e3).trans e4)⟩
theorem ev_ixS {l : List Nat} {i c : Nat} (hz : l.length ≤ 100000) (hi : l[i]? = some c) (ha : Ev ta σ H (tx l)) (hb : Ev tb σ H (.int (i : Int))) : Ev (tOp rIxS ta tb) σ H (tx [c]) :=
  ev_op ha hb (rv_ixS (w := SX.S l) (by rw [SX.S_len]; exact hz) (atI_nat hi))
theorem ev_mulS {l : List Nat} {n : Nat} (h1 : n ≤ 100000) (h2 : l.length * n ≤ 100000) (ha : Ev ta σ H (tx l)) (hb : Ev tb σ H (.int (n : Int))) : Ev (tOp rMulS ta tb) σ H (tx (List.replicate n l).flatten) :=
  ev_op ha hb fun H1 _ Q q => ⟨l, n, rfl, rfl, h1, h2, q H1 (Ex.refl H1)⟩
/-! ### lists made on the way -/
theorem ev_allN {bs : List Bool} (ha : EvL ta σ H (bs.map V.bl)) : Ev (tCB (rAll K) (tCons ta tNil)) σ H (.bl (bs.all id)) := fun H1 e Q q =>
  ha H1 e _ fun p H2 _ e2 h2 => ⟨p, bs, rfl, sq_of h2, q H2 e2⟩
theorem eu_tupOfL {xs : List V} (ha : EvL ta σ H xs) : EvU (tCB (fun xs H Q => ∃ p ys, xs = [.ref p] ∧ ((SqL K H p ys ∧ ∀ l, H l = none → Q (.ref l) (upd H l (.tup ys))) ∨ (SqT K H p ys ∧ Q (.ref p) H))) (tCons ta tNil)) σ H xs := fun H1 e Q q =>
  ha H1 e _ fun p H2 _ e2 h2 => ⟨p, xs, rfl, .inl ⟨sq_of h2, fun l hl => q l _ (fresh_back e2 hl) (e2.trans (Ex.new hl)) upd_same⟩⟩
theorem eu_tupOf {p : Addr} {xs : List V} (ha : Ev ta σ H (.ref p)) (hp : SqL K H p xs) : EvU (tCB (fun xs H Q => ∃ p ys, xs = [.ref p] ∧ ((SqL K H p ys ∧ ∀ l, H l = none → Q (.ref l) (upd H l (.tup ys))) ∨ (SqT K H p ys ∧ Q (.ref p) H))) (tCons ta tNil)) σ H xs := fun H1 e Q q =>
  ha H1 e _ fun H2 e2 => ⟨p, xs, rfl, .inl ⟨ex_l (e.trans e2) hp, fun l hl => q l _ (fresh_back e2 hl) (e2.trans (Ex.new hl)) upd_same⟩⟩
theorem rc_lenT {p : Addr} {xs : List V} (h : SqT K H p xs) : RC (fun vs H Q => ∃ p ys, vs = [V.ref p] ∧ (SqL K H p ys ∨ SqT K H p ys) ∧ Q (V.int ys.length) H) [.ref p] H (.int xs.length) := fun H1 e _ q =>
  ⟨p, xs, rfl, .inr (ex_t e h), q H1 (Ex.refl H1)⟩
/-- a list made over zip(text, text) -/
theorem el_lcZ {x y : List Nat} {tp : TA} {j1 j2 : Nat} {vs : List Nat} (v : Nat → V) (h : EvA tp σ H [tx x, tx y]) (hz : x.length ≤ 40000)
    (hw : ∀ a b, wipe (((wipe σ vs).set j1 (some a)).set j2 (some b)) vs = wipe σ vs)
    (he : ∀ (i c d : Nat) H1, Ex H H1 → x[i]? = some c → y[i]? = some d → Ev te (((wipe σ vs).set j1 (some (tx [c]))).set j2 (some (tx [d]))) H1 (v i)) :
    EvL (tLc (iZipS tp) (gTup K 2 (gCons (gName j1) (gCons (gName j2) gNil))) tYes te vs) σ H ((List.range (min x.length y.length)).map v) := fun H0 e Q q => h H0 e _ fun H1 e1 => ⟨SX.S x, SX.S y, rfl, fun Dl hD => by
  have hn : min (SX.S x).cps.size (SX.S y).cps.size = min x.length y.length := by
    show min x.toArray.size y.toArray.size = _
    simp
  refine lc_it walk_zs (Cw H1 (fun _ => true) v Dl) ⟨hD, Ex.new hD, upd_same⟩ (fun _ _ _ _ => trivial) (fun i z H' H2 hi p yp => ?_) (fun H' p => ?_)
  · obtain ⟨T, a, b, rfl, hT, rfl, ha, hb⟩ := yp
    have ha2 : (x[i]?).map (fun c => tx [c]) = some a := ha
    have hb2 : (y[i]?).map (fun c => tx [c]) = some b := hb
    cases hx : x[i]? with
    | none =>
      rw [hx] at ha2
      cases ha2
    | some c =>
    cases hy : y[i]? with
    | none =>
      rw [hy] at hb2
      cases hb2
    | some d =>
    rw [hx] at ha2
    rw [hy] at hb2
    cases ha2
    cases hb2
    have hxl := (List.getElem?_eq_some_iff.mp hx).1
    have p2 : Cw H1 (fun _ => true) v Dl i (L2.upd H' T (.tup [tx [c], tx [d]])) := ⟨p.1, p.2.1.trans (Ex.new hT), Ex.new hT _ _ p.2.2⟩
    exact ⟨T, _, rfl, st_of upd_same, rfl, _, _, rfl, _, _, rfl, rfl, hw _ _, cw_turn p2 (by omega) et_yes fun _ => he i c d H1 (e.trans e1) hx hy⟩
  · rw [hn] at p
    have e9 := given_all (min x.length y.length) v
    have p3 := p.2.2
    rw [e9] at p3
    exact q Dl H' (fresh_back e1 p.1) (e1.trans p.2.1) p3⟩
end
end Ver
namespace Ver
open PySem PySem.Spec PyProof.Rows L2 Evl
section
variable {K : PySem.W.Frag} {σ : L2.St} {H : Hp} {ta tb tc te tl ty td : TE} {t : TT} {tu tz : TS} {D : Ends}
abbrev gPair (K : PySem.W.Frag) (j1 j2 : Nat) : TG := gTup K 2 (gCons (gName j1) (gCons (gName j2) gNil))
theorem q_drop {v : V} (h : Ev te σ H v) (k : ∀ H1, Ex H H1 → tz D σ H1) : tSeq (tDrop te) tz D σ H := s_drop (D := { D with nx := tz D }) h k
/-- a, b = a pair that stands -/
theorem q_unp {r : Addr} {a b : V} {j1 j2 : Nat} (h : Ev te σ H (.ref r)) (hr : H r = some (.tup [a, b])) (k : ∀ H1, Ex H H1 → tz D ((σ.set j1 (some a)).set j2 (some b)) H1) : tSeq (tAsg te (gPair K j1 j2)) tz D σ H :=
  h H (Ex.refl H) _ fun H1 e => ⟨r, [a, b], rfl, st_of (e _ _ hr), rfl, a, [b], rfl, b, [], rfl, rfl, k H1 e⟩
/-- for i, x in enumerate(a tuple) -/
theorem s_forET {tp : TA} {a : Addr} {xs : List V} {j1 j2 : Nat} (h : EvA tp σ H [.ref a]) (hx : SqT K H a xs)
    (Pv : Nat → L2.St → Hp → Prop) (h0 : ∀ H1, Ex H H1 → Pv 0 σ H1) (hG : ∀ i σ' H', Pv i σ' H' → SqT K H' a xs)
    (hs : ∀ i x σ' H' H2, xs[i]? = some x → Pv i σ' H' → Ex H' H2 → tu { D with nx := Pv (i + 1), ct := Pv (i + 1), bk := D.nx } ((σ'.set j1 (some (.int (i : Int)))).set j2 (some x)) H2)
    (hd : ∀ σ' H', Pv xs.length σ' H' → D.nx σ' H') : tFor (iEnumT K tp) (gPair K j1 j2) tu D σ H := by
  refine h H (Ex.refl H) _ fun H1 e1 => ⟨a, xs, rfl, ex_t e1 hx, for_it (walk_eT (k := 0) (xs := xs)) Pv (h0 H1 e1) (fun i σ' H' _ p => hG i σ' H' p) ?_ hd⟩
  intro i v σ' H3 H4 _ p y
  obtain ⟨T, x, z, rfl, hT, rfl, e3, e4⟩ := y
  cases e3
  have g := hs i z σ' H3 (L2.upd H3 T (.tup [.int (0 + (i : Int)), z])) e4 p (Ex.new hT)
  have e0 : (0 : Int) + (i : Int) = (i : Int) := Int.zero_add _
  refine ⟨T, [.int (0 + (i : Int)), z], rfl, st_of upd_same, rfl, _, _, rfl, _, _, rfl, rfl, ?_⟩
  generalize L2.upd H3 T (.tup [.int (0 + (i : Int)), z]) = HX at g ⊢
  show tu _ ((σ'.set j1 (some (.int (0 + (i : Int))))).set j2 (some z)) HX
  rw [e0]
  exact g
/-- for p, c in rows (a tuple of pairs) -/
theorem q_forRows {a : Addr} {xs : List V} {rs : Rw} {j1 j2 : Nat} (h : Ev tl σ H (.ref a)) (hx : SqT K H a xs) (R : RowsAt H xs rs)
    (Pv : Nat → L2.St → Hp → Prop) (h0 : ∀ H1, Ex H H1 → Pv 0 σ H1) (hG : ∀ i σ' H', Pv i σ' H' → SqT K H' a xs ∧ RowsAt H' xs rs)
    (hs : ∀ i σ' H', i < rs.length → Pv i σ' H' → tu { D with nx := Pv (i + 1), ct := Pv (i + 1), bk := tz D } ((σ'.set j1 (some (.int ((rowAt rs i).1 : Int)))).set j2 (some (tx [(rowAt rs i).2]))) H')
    (hd : ∀ σ' H', Pv rs.length σ' H' → tz D σ' H') : tSeq (tFor (iTup K tl) (gPair K j1 j2) tu) tz D σ H := by
  refine q_forT h hx Pv h0 (fun i σ' H' _ p => (hG i σ' H' p).1) ?_ (by rw [R.len]; exact hd)
  intro i x σ' H' hi p
  obtain ⟨hlt, r, rfl, hr⟩ := (hG i σ' H' p).2.get hi
  exact ⟨r, _, rfl, st_of hr, rfl, _, _, rfl, _, _, rfl, rfl, hs i σ' H' hlt p⟩
/-! ### dicts -/
theorem et_din {a : Addr} {y : V} {o : Option V} (hy : Ev ty σ H y) (hd : Ev td σ H (.ref a)) (hg : ∀ H1, Ex H H1 → DGet H1 a y o) : EvT (tB (tDIn ty td)) σ H o.isSome := fun H1 e Q q =>
  hy H1 e _ fun H2 e2 => hd H2 (e.trans e2) _ fun H3 e3 => ⟨a, o, rfl, hg H3 ((e.trans e2).trans e3), o.isSome, rfl, q H3 (e2.trans e3)⟩
theorem ev_dget {a : Addr} {y v : V} (hd : Ev td σ H (.ref a)) (hy : Ev ty σ H y) (hg : ∀ H1, Ex H H1 → DGet H1 a y (some v)) : Ev (tDGet td ty) σ H v := fun H1 e Q q =>
  hd H1 e _ fun H2 e2 => hy H2 (e.trans e2) _ fun H3 e3 => ⟨a, v, rfl, hg H3 ((e.trans e2).trans e3), q H3 (e2.trans e3)⟩
theorem s_dput {a : Addr} {y v : V} {g : Hp → Hp} (hv : Ev te σ H v) (hd : Ev td σ H (.ref a)) (hy : Ev ty σ H y) (hp : ∀ H1, Ex H H1 → DPut H1 a y v (g H1)) (k : ∀ H1, Ex H H1 → D.nx σ (g H1)) : sDPut td ty te D σ H :=
  hv H (Ex.refl H) _ fun H1 e1 => hd H1 e1 _ fun H2 e2 => hy H2 (e1.trans e2) _ fun H3 e3 => ⟨a, g H3, rfl, hp H3 ((e1.trans e2).trans e3), k H3 ((e1.trans e2).trans e3)⟩
theorem q_dput {a : Addr} {y v : V} {g : Hp → Hp} (hv : Ev te σ H v) (hd : Ev td σ H (.ref a)) (hy : Ev ty σ H y) (hp : ∀ H1, Ex H H1 → DPut H1 a y v (g H1)) (k : ∀ H1, Ex H H1 → tz D σ (g H1)) : tSeq (sDPut td ty te) tz D σ H :=
  s_dput (D := { D with nx := tz D }) hv hd hy hp k
theorem q_newT {i : Nat} (k : ∀ p H1, H p = none → Ex H H1 → H1 p = some (.dT []) → tz D (σ.set i (some (.ref p))) H1) : tSeq (tAsg tDNewT (gName i)) tz D σ H := fun p hp => k p _ hp (Ex.new hp) upd_same
/-! ### list.insert, text.index, join -/
theorem q_ins {l : Addr} {xs : List V} {i : Nat} {v : V} (hl : H l = some (.lst xs)) (ha : Ev ta σ H (.ref l)) (hb : Ev tb σ H (.int (i : Int))) (hc : Ev tc σ H v) (hz : xs.length < 100000) (hi : i ≤ 100000)
    (k : ∀ H1, Ex H H1 → tz D σ (upd H1 l (.lst (xs.take i ++ [v] ++ xs.drop i)))) :
    tSeq (tDrop (tBM K "list" (fun x vs H Q => ∃ (l : Addr) (xs : List V) (i : Int) (y : V), x = .ref l ∧ vs = [.int i, y] ∧ H l = some (.lst xs) ∧ xs.length < sizeLine ∧ 0 ≤ i ∧ i < 2 ^ 63 ∧
      Q .non (upd H l (.lst (xs.take i.toNat ++ [y] ++ xs.drop i.toNat)))) ta (tCons tb (tCons tc tNil)))) tz D σ H :=
  ha H (Ex.refl H) _ fun H1 e1 => ⟨Or.inl ⟨rfl, xs, sq_of (e1 l _ hl)⟩, hb H1 e1 _ fun H2 e2 => hc H2 (e1.trans e2) _ fun H3 e3 =>
    ⟨l, xs, (i : Int), v, rfl, rfl, ((e1.trans e2).trans e3) l _ hl, sz_lt hz, by omega, by omega, by rw [Int.toNat_natCast]; exact k H3 ((e1.trans e2).trans e3)⟩⟩
theorem ev_sidx {l : List Nat} {c i : Nat} (nd : l.Nodup) (hi : l[i]? = some c) (ha : Ev ta σ H (tx l)) (hb : Ev tb σ H (tx [c])) : Ev (tBM K "str" (fun x xs H Q => ∃ a b i rest, x = .str a ∧ xs = [.str b] ∧ Builtin.Str.occurrences a b 0 a.length 1 = i :: rest ∧ Q (.int (i : Nat)) H) ta (tCons tb tNil)) σ H (.int (i : Int)) :=
  ev_bm ha (fun _ _ => rfl) (ea_cons hb ea_nil) fun H1 _ Q q => by
    obtain ⟨rest, e⟩ := index_one nd hi
    exact ⟨_, _, i, rest, rfl, rfl, e, q H1 (Ex.refl H1)⟩
theorem joinL_nil : ∀ ps : List (List Nat), TL.joinL [] ps = ps.flatten
  | [] => rfl
  | [p] => by
    show p = [p].flatten
    simp
  | p :: q :: r => by
    show p ++ ([] ++ TL.joinL [] (q :: r)) = (p :: q :: r).flatten
    rw [joinL_nil (q :: r)]
    simp
theorem join_flat (ps : List (List Nat)) : Txt.join (SX.S []) (ps.map SX.S) = SX.S ps.flatten := by
  rw [SX.join_S, joinL_nil]
theorem map_tx (ps : List (List Nat)) : ps.map tx = (ps.map SX.S).map V.str := by
  rw [List.map_map]
  rfl
theorem sum_lens : ∀ ps : List (List Nat), ((ps.map SX.S).map (·.length)).sum = ps.flatten.length
  | [] => rfl
  | p :: r => by
    rw [List.map_cons, List.map_cons, List.sum_cons, sum_lens r, SX.S_len, List.flatten_cons, List.length_append]
abbrev rJoin (K : PySem.W.Frag) : V → List V → Hp → VK → Prop := fun x xs H Q => ∃ a p, ∃ ys : List Str, x = .str a ∧ xs = [.ref p] ∧ (SqL K H p (ys.map V.str) ∨ SqT K H p (ys.map V.str)) ∧
  (ys.map (·.length)).sum + ys.length * a.length ≤ 16777216 ∧ Q (.str (Txt.join a ys)) H
theorem join_ok {p : Addr} {ps : List (List Nat)} (hp : SqL K H p (ps.map tx) ∨ SqT K H p (ps.map tx)) (hz : ps.flatten.length ≤ 100000) {Q : VK} (q : Q (tx ps.flatten) H) : rJoin K (tx []) [.ref p] H Q := by
  refine ⟨SX.S [], p, ps.map SX.S, rfl, rfl, by rw [← map_tx]; exact hp, ?_, ?_⟩
  · rw [sum_lens, SX.S_len]
    show _ + _ * 0 ≤ _
    omega
  · rw [join_flat]
    exact q
theorem ev_join {p : Addr} {ps : List (List Nat)} (ha : Ev ta σ H (tx [])) (hb : Ev tb σ H (.ref p)) (hp : SqL K H p (ps.map tx) ∨ SqT K H p (ps.map tx)) (hz : ps.flatten.length ≤ 100000) : Ev (tM1 (rJoin K) ta tb) σ H (tx ps.flatten) := fun H1 e Q q =>
  ha H1 e _ fun H2 e2 => ⟨⟨_, rfl⟩, hb H2 (e.trans e2) _ fun H3 e3 => join_ok (hp.elim (fun h => .inl (ex_l ((e.trans e2).trans e3) h)) (fun h => .inr (ex_t ((e.trans e2).trans e3) h))) hz (q H3 (e2.trans e3))⟩
theorem ev_joinL {ps : List (List Nat)} (ha : Ev ta σ H (tx [])) (hb : EvL tb σ H (ps.map tx)) (hz : ps.flatten.length ≤ 100000) : Ev (tM1 (rJoin K) ta tb) σ H (tx ps.flatten) := fun H1 e Q q =>
  ha H1 e _ fun H2 e2 => ⟨⟨_, rfl⟩, hb H2 (e.trans e2) _ fun p H3 _ e3 h3 => join_ok (.inl (sq_of h3)) hz (q H3 (e2.trans e3))⟩
/-! ### fields -/
theorem ev_fld {p C dx : Addr} {fs : List (Str × V)} {f : Str} {v : V} (h : Ev te σ H (.ref p)) (hp : H p = some (.ins C dx fs)) (c : Cls K C) (n : NoAttr K C f) (hl : fs.lookup f = some v) : Ev (tFld K te f) σ H v := fun H1 e Q q =>
  h H1 e _ fun H2 e2 => ⟨p, C, dx, fs, v, rfl, (e.trans e2) _ _ hp, c, n, hl, q H2 e2⟩
theorem q_fld {p C dx : Addr} {fs : List (Str × V)} {f : Str} {v : V} (hv : Ev te σ H v) (ho : Ev ta σ H (.ref p)) (hp : H p = some (.ins C dx fs)) (c : Cls K C) (n : NoAttr K C f) (hz : fs.length < 1000)
    (k : ∀ H1, Ex H H1 → tz D σ (upd H1 p (.ins C dx (putF f v fs)))) : tSeq (sFld K ta te f) tz D σ H :=
  hv H (Ex.refl H) _ fun H1 e1 => ho H1 e1 _ fun H2 e2 => ⟨p, C, dx, fs, rfl, (e1.trans e2) _ _ hp, c, n, hz, k H2 (e1.trans e2)⟩
theorem q_fldU {p C dx : Addr} {fs : List (Str × V)} {f : Str} {xs : List V} (hv : EvU te σ H xs) (ho : ∀ H1, Ex H H1 → Ev ta σ H1 (.ref p)) (hp : H p = some (.ins C dx fs)) (c : Cls K C) (n : NoAttr K C f) (hz : fs.length < 1000)
    (k : ∀ r H1, H r = none → Ex H H1 → H1 r = some (.tup xs) → tz D σ (upd H1 p (.ins C dx (putF f (.ref r) fs)))) : tSeq (sFld K ta te f) tz D σ H :=
  hv H (Ex.refl H) _ fun r H1 hr e1 h1 => ho H1 e1 H1 (Ex.refl H1) _ fun H2 e2 => ⟨p, C, dx, fs, rfl, (e1.trans e2) _ _ hp, c, n, hz, k r H2 hr (e1.trans e2) (e2 _ _ h1)⟩
theorem s_fldU {p C dx : Addr} {fs : List (Str × V)} {f : Str} {xs : List V} (hv : EvU te σ H xs) (ho : ∀ H1, Ex H H1 → Ev ta σ H1 (.ref p)) (hp : H p = some (.ins C dx fs)) (c : Cls K C) (n : NoAttr K C f) (hz : fs.length < 1000)
    (k : ∀ r H1, H r = none → Ex H H1 → H1 r = some (.tup xs) → D.nx σ (upd H1 p (.ins C dx (putF f (.ref r) fs)))) : sFld K ta te f D σ H :=
  hv H (Ex.refl H) _ fun r H1 hr e1 h1 => ho H1 e1 H1 (Ex.refl H1) _ fun H2 e2 => ⟨p, C, dx, fs, rfl, (e1.trans e2) _ _ hp, c, n, hz, k r H2 hr (e1.trans e2) (e2 _ _ h1)⟩
/-- a call that gives a new tuple -/
def SpU (sp : Sp) (vs : List V) (H : Hp) (xs : List V) : Prop := ∀ H1, Ex H H1 → ∀ Q : VK, (∀ p H2, H1 p = none → Ex H1 H2 → H2 p = some (.tup xs) → Q (.ref p) H2) → ∀ E : XK, sp vs H1 Q E
theorem eu_call {sp : Sp} {dvs vs xs : List V} {E : XK} {tp : TA} (h : EvA tp σ H vs) (hs : SpU sp (vs ++ dvs) H xs) : EvU (tCall sp dvs E tp) σ H xs := fun H1 e Q q =>
  h H1 e _ fun H2 e2 => hs H2 (e.trans e2) Q (fun p H3 hp e3 h3 => q p H3 (fresh_back e2 hp) (e2.trans e3) h3) E
end
end Ver
namespace Ver
open PySem PySem.Spec PyProof.Rows L2 Evl
/-! ### d.setdefault(k, x), tuple keys -/
section
variable {X : Cx}
def rSetT : V → List V → Hp → VK → Prop := fun x xs H Q => ∃ (a : Addr) (kvs : List (List L2.Key × V)) (k : List L2.Key) (b : Addr) (d : V), x = .ref a ∧ xs = [.ref b, d] ∧ H a = some (.dT kvs) ∧ H b = some (.tup (k.map kV)) ∧ kvs.length < sizeLine ∧
  (∀ v, valV kvs k = some v → Q v H) ∧ (valV kvs k = none → Q d (upd H a (.dT (putK kvs k d))))
theorem mt_setT (hu : X.A.units + 1 < cLine) : MtR X "dict.setdefault" rSetT := by
  intro pins s σ H x xs v us Q I rx rxs h
  obtain ⟨a, kvs, k, b, d, rfl, rfl, ha, hb, hl, q1, q2⟩ := h
  cases rx
  obtain ⟨u1, u2, rfl, r1, r2⟩ := vals2 rxs
  cases r1
  obtain ⟨z, hd, xs', rel, dd⟩ := dt_of I.hok ha
  have hz : xs'.length ≤ sizeLine := by rw [← Paired.length rel]; exact z
  refine call_setdefault_heap (hsz := hz) (k := k) (tupleKind_room_in1 hu) (key_of I.hok hb) hd dd (fun p hp => ?_) (fun hn h' dd' hs => ?_)
  · have r := rel.val k
    rw [hp] at r
    obtain ⟨v0, ev, rv⟩ : ∃ v0, valV kvs k = some v0 ∧ RelV v0 p.2 := by
      cases ev : valV kvs k with
      | none =>
        rw [ev] at r
        exact (show False from r).elim
      | some v0 =>
        rw [ev] at r
        exact ⟨v0, rfl, r⟩
    exact ⟨v0, H, I.tok _, rv, q1 v0 ev⟩
  · have r := rel.val k
    rw [hn] at r
    have e : valV kvs k = none := by
      cases ev : valV kvs k with
      | none => rfl
      | some v0 =>
        rw [ev] at r
        exact (show False from r).elim
    obtain ⟨q, es, ep, hq, h2, h3, h4, _, h5⟩ := dd'
    have hl2 : (putK kvs k d).length ≤ sizeLine := by
      have := length_putK kvs k d
      omega
    refine ⟨d, _, d_write (t' := s.toks + (tupleKind (mixKind X.prog X.w)).draws k) (ob := .dT (putK kvs k d)) I (by rw [ha]; exact True.intro) hs ⟨q, hq⟩ ⟨hl2, hd, _, (rel.put k hb r2).keeps fun c ys ec => ?_, q, es, ep, hq, h2, h3, h4, h5⟩, r2, q2 e⟩
    rw [upd_ne (ne_of ec ha (fun z => nomatch z))]
    exact ec
end
def rLenK : List V → Hp → VK → Prop := fun xs H Q => ∃ (p : Addr) (kvs : List (Key × V)), xs = [.ref p] ∧ H p = some (.dK kvs) ∧ Q (.int ((kvs.length : Nat) : Int)) H
theorem call_len_dK {X : Cx} : CallR X (.builtin "len") rLenK := by
  intro pins s σ H xs us Q I r h
  obtain ⟨p, kvs, rfl, hp, q⟩ := h
  obtain ⟨u, rfl, rx⟩ := vals1 r
  obtain rfl : u = .ref p := rx
  exact d_len I (.inl hp) fun t s' I' => ⟨.int ((kvs.length : Nat) : Int), H, I', ⟨_, rfl⟩, q⟩
theorem q_newK {σ : L2.St} {H : Hp} {D : Ends} {tz : TS} {i : Nat} (k : ∀ p H1, H p = none → Ex H H1 → H1 p = some (.dK []) → tz D (σ.set i (some (.ref p))) H1) : tSeq (tAsg tDNewK (gName i)) tz D σ H := fun p hp => k p _ hp (Ex.new hp) upd_same
/-! ### zip of a text and a list -/
def Izsl (K : PySem.W.Frag) (x : Str) (b : Addr) (ys : List V) : It where
  go := fun i H => i < x.cps.size ∧ i < ys.length ∧ SqL K H b ys
  yld := fun i H v H' => ∃ T c y, v = .ref T ∧ H T = none ∧ H' = upd H T (.tup [.str ⟨#[c]⟩, y]) ∧ x.cps[i]? = some c ∧ ys[i]? = some y
  stop := fun i H => i ≤ x.cps.size ∧ i ≤ ys.length ∧ (i = x.cps.size ∨ i = ys.length) ∧ SqL K H b ys
section
variable {P : Program} {w : World} {K : PySem.W.Frag} {elts : List Expr} {kk : Nat} {tpos : Pos}
theorem turnZsl (x : Str) (ys : List V) (t : Tok) (z TI TO i1 i2 b : Addr) (S : ZipSep2 z TI TO i1 i2 [i1] [i2, b]) (hne : b ≠ i2) : Turn P w K (.Tuple elts kk tpos) (Izsl K x b ys) [z, TI, TO, i1, i2] z
    (fun i h => IsZip h z TI TO .none ∧ IsTupOf2 h TI (.ref i1) (.ref i2) ∧ (∃ a1 a2, IsTupOf2 h TO a1 a2) ∧ h.IsStrIter i1 (strIterType x) x t i ∧ h.IsListIter i2 b i) where
  mem := List.mem_cons_self ..
  obj := fun i h st c hc => by
    obtain ⟨hz, hTI, ⟨a1, a2, hTO⟩, ⟨o1, e1, _, d1⟩, ⟨o2, e2, _, d2⟩⟩ := st
    rcases five_mem hc with q | q | q | q | q
    · rw [q]; exact ⟨_, hz, fun v q => nomatch q⟩
    · rw [q]; exact ⟨_, hTI, fun v q => nomatch q⟩
    · rw [q]; exact ⟨_, hTO, fun v q => nomatch q⟩
    · rw [q]; exact ⟨o1, e1, fun v q => by rw [d1] at q; cases q⟩
    · rw [q]; exact ⟨o2, e2, fun v q => by rw [d2] at q; cases q⟩
  keep := fun i h h' st k => by
    obtain ⟨hz, hTI, ⟨a1, a2, hTO⟩, h1, h2⟩ := st
    exact ⟨k z (by simp) _ hz, k TI (by simp) _ hTI, ⟨a1, a2, k TO (by simp) _ hTO⟩, si_at h1 fun o q => k i1 (by simp) o q, h2.at fun o q => k i2 (by simp) o q⟩
  item := by
    intro X hP hw hK hc i pins s σ H E I hf st hg
    subst hP hw hK
    obtain ⟨hz, hTI, ⟨a1, a2, hTO⟩, h1, h2⟩ := st
    obtain ⟨its, rv, p, _⟩ := I.list hg.2.2
    have D1 := Draws.text (prog := X.prog) (w := X.w) (A := X.A.in1) (I.ok.hd hc) i1 x t
    have D2 := Draws.list (prog := X.prog) (w := X.w) (A := X.A.in1) (I.ok.hd hc) i2 b hne its.toArray
    have hzl : z < s.heap.objs.size := Heap.lt_size hz
    have l1 : i1 < s.heap.objs.size := by
      obtain ⟨o, e, _⟩ := h1
      exact Heap.lt_size e
    have l2 : i2 < s.heap.objs.size := by
      obtain ⟨o, e, _⟩ := h2
      exact Heap.lt_size e
    have hlen := rv.length
    refine wpAny_pyNext_zipD2_item S D1 D2 hz hTI hTO h1 ⟨h2, p.isList⟩ hg.1 (by rw [List.size_toArray, ← hlen]; exact hg.2.1) fun y1 y2 h' tk ⟨c, u1, hc1, ev1⟩ hy2 b1 b2 s1 s2 hT hsz hk => ?_
    subst ev1
    have hy3 : its[i]? = some y2 := by simpa using hy2
    have hyi : ys[i]? = some (ys[i]'hg.2.1) := List.getElem?_eq_getElem hg.2.1
    obtain ⟨u2, hu2, ru2⟩ := rv.get hyi
    obtain rfl : u2 = y2 := Option.some.inj (hu2.symm.trans hy3)
    refine ⟨_, rfl, wpAny_letOwnedTupleGo_zip (s := { s with heap := h', toks := tk }) b1 fun h'' z'' sb => ?_⟩
    have hT2 : h''.get? s.heap.objs.size = some { cls := .type "tuple", data := .seq #[.str ⟨#[c]⟩ u1, u2] } := (sb.2 _ (Nat.ne_of_gt hzl)).trans hT
    have new : ObjOk X.prog X.w (upd H s.heap.objs.size (.tup [.str ⟨#[c]⟩, ys[i]'hg.2.1])) h'' s.heap.objs.size (.tup [.str ⟨#[c]⟩, ys[i]'hg.2.1]) :=
      ⟨(by show 2 ≤ sizeLine; decide), [.str ⟨#[c]⟩ u1, u2], .cons ⟨_, rfl⟩ (.cons ru2 .nil), ⟨_, hT2, rfl, _, rfl⟩⟩
    have I1 : Inv X pins σ (upd H s.heap.objs.size (.tup [.str ⟨#[c]⟩, ys[i]'hg.2.1])) { s with heap := h'', toks := tk } := by
      refine I.turnedNew (ch := [z, TI, TO, i1, i2]) (fun b ob nb q => ?_) hf (Nat.le_refl _) new
      exact (sb.2 b (fun q' => nb (by simp [q']))).trans (hk b ob (fun q' => nb (by simp [q'])) (fun q' => nb (by simp [q'])) (fun q' => nb (by simp [q'])) (fun q' => nb (by simp [q'])) q)
    refine ⟨.ref s.heap.objs.size, _, I1, rfl, ⟨_, c, _, rfl, I.hok.fresh (Nat.le_refl _), rfl, hc1, hyi⟩, ⟨z'', ?_, ⟨.str ⟨#[c]⟩ u1, u2, ?_⟩, ?_, ?_⟩, fun b hb => ?_⟩
    · exact (sb.2 _ S.TIz).trans (hk _ _ S.TIz S.TITO S.TIi1 S.TIi2 hTI)
    · exact (sb.2 _ S.TOz).trans b2
    · exact si_at s1 fun o q => (sb.2 _ S.zi1.symm).trans q
    · exact s2.1.at fun o q => (sb.2 _ S.zi2.symm).trans q
    · have hlt : b < s.heap.objs.size := by
        rcases five_mem hb with q | q | q | q | q
        · rw [q]; exact hzl
        · rw [q]; exact Heap.lt_size hTI
        · rw [q]; exact Heap.lt_size hTO
        · rw [q]; exact l1
        · rw [q]; exact l2
      rw [upd_ne (Nat.ne_of_lt hlt)]
      exact (hf b hb).1
  done := by
    intro X hP hw hK hc i pins s σ H E I hf st hg
    subst hP hw hK
    obtain ⟨hz, hTI, ⟨a1, a2, hTO⟩, h1, h2⟩ := st
    obtain ⟨its, rv, p, _⟩ := I.list hg.2.2.2
    have hlen := rv.length
    have D1 := Draws.text (prog := X.prog) (w := X.w) (A := X.A.in1) (I.ok.hd hc) i1 x t
    have D2 := Draws.list (prog := X.prog) (w := X.w) (A := X.A.in1) (I.ok.hd hc) i2 b hne its.toArray
    exact wpAny_pyNext_zipD2_end S D1 D2 hz hTI hTO h1 ⟨h2, p.isList⟩ hg.1 (by rw [List.size_toArray, ← hlen]; exact hg.2.1) (by have h9 := hg.2.2.1; rw [hlen] at h9; exact h9) fun h' tk hk => ⟨rfl, I.turnedL (t' := tk) (ch := [z, TI, TO, i1, i2]) (fun c o hb q =>
      hk c o (fun q' => hb (by simp [q'])) (fun q' => hb (by simp [q'])) (fun q' => hb (by simp [q'])) (fun q' => hb (by simp [q'])) q) hf⟩
  self := fun A i s Q E st h => wpAny_pyIter_zip st.1 h
theorem sep_nl (n b : Nat) (h : b < n) : ZipSep2 (n + 4) (n + 2) (n + 3) n (n + 1) [n] [n + 1, b] := by
  have two : ∀ c : Addr, c ∈ [(show Addr from n + 1), (show Addr from b)] → c = (show Addr from n + 1) ∨ c = (show Addr from b) := fun c h => by simpa using h
  have no : ∀ m : Nat, m ≠ n + 1 → m ≠ b → (show Addr from m) ∉ [(show Addr from n + 1), (show Addr from b)] := fun m h1 h2 h => (two _ h).elim h1 h2
  exact ⟨ne_nat (by omega), ne_nat (by omega), ne_nat (by omega), ne_nat (by omega), List.mem_singleton.mpr rfl, fun h => absurd (List.mem_singleton.mp h) (ne_nat (by omega)), fun h => absurd (List.mem_singleton.mp h) (ne_nat (by omega)),
    ne_nat (by omega), List.mem_cons_self .., no _ (by omega) (by omega), no _ (by omega) (by omega), no _ (by omega) (by omega), fun h => absurd (List.mem_singleton.mp h) (ne_nat (by omega))⟩
def iZipSL (K : PySem.W.Frag) (ta : TA) : TI := fun σ H R => ta σ H fun vs H1 => ∃ x b ys, vs = [.str x, .ref b] ∧ SqL K H1 b ys ∧ R (Izsl K x b ys) H1
theorem pi_zipSL {X : Cx} {e e2 : Expr} {ta : TA} {p pos tpos : Pos} {elts : List Expr} {kk : Nat} (hg : Gl X "zip") (hm : X.mg "zip" = none) (ha : PA X [e, e2] ta)
    (hs : starEach [e, e2] X.env = (false, eval e X.env) :: starEach [e2] X.env := by rfl) (hpl : (backTo pos (starEach [e2] X.env)).any (·.1) = false := by rfl) :
    PI X (.Tuple elts kk tpos) (.Call (.Name "zip" p) [e, e2] [] pos) (iZipSL X.K ta) := by
  refine ⟨fun pins s σ H R I h => ?_⟩
  refine Call_ (ld_blt I hg hm PyProof.Rows.boot_zip (PyProof.Rows.callWith_type1 (thn (ha.run pos pins s σ H _ I h) fun us s1 ⟨vs, H1, I1, r1, q1⟩ => ?_) hs hpl))
  obtain ⟨x, b, ys, ex, hb, q⟩ := q1
  subst ex
  cases r1 with
  | cons r rr =>
    cases rr with
    | cons r' rr =>
      cases rr
      obtain ⟨t, rfl⟩ := r
      cases r'
      obtain ⟨its, rv, p1, _⟩ := I1.list hb
      refine zip_begins2 (begins_text x t) (begins_list b its.toArray) trivial p1.isList fun h' hz hTI hTO g1 g2 hsz hk => wpAny_pyIter_zip hz ?_
      have I2 : Inv X pins σ H1 { s1 with heap := h' } := I1.kept (t' := s1.toks) hk
      have S := sep_nl s1.heap.objs.size b p1.lt
      refine ⟨s1.heap.objs.size + 4, [s1.heap.objs.size + 4, s1.heap.objs.size + 2, s1.heap.objs.size + 3, s1.heap.objs.size, s1.heap.objs.size + 1], _, _, H1, rfl, I2, turnZsl x ys t _ _ _ _ _ b S (fun e => absurd (show (show Nat from b) = s1.heap.objs.size + 1 from e) (by have h9 : (show Nat from b) < s1.heap.objs.size := p1.lt; omega)), ⟨hz, hTI, ⟨_, _, hTO⟩, ⟨_, g1, rfl, rfl⟩, ⟨_, g2, rfl, rfl⟩⟩, fun c hcm => ?_, q⟩
      have hle : s1.heap.objs.size ≤ c := by
        rcases five_mem hcm with z | z | z | z | z
        · rw [z]; exact Nat.le_add_right _ _
        · rw [z]; exact Nat.le_add_right _ _
        · rw [z]; exact Nat.le_add_right _ _
        · rw [z]; exact Nat.le_refl _
        · rw [z]; exact Nat.le_add_right _ _
      exact I1.fpOk hle (I1.hok.fresh hle)
theorem walk_zsl {x : Str} {b : Addr} {ys : List V} : Walk (Izsl K x b ys) (min x.cps.size ys.length) (fun H => SqL K H b ys) (YPair (fun i => (x.cps.toList[i]?).map fun c => V.str ⟨#[c]⟩) (fun i => ys[i]?)) := by
  refine ⟨fun i _ hi q => ?_, fun _ q => ?_, fun i H v H' hi q y' => ?_⟩
  · exact ⟨by omega, by omega, q⟩
  · exact ⟨by omega, by omega, by omega, q⟩
  obtain ⟨T, c, d, h1, h2, h3, h4, h5⟩ := y'
  refine ⟨T, .str ⟨#[c]⟩, d, h1, h2, h3, ?_, h5⟩
  show Option.map _ (x.cps.toList[i]?) = _
  rw [Array.getElem?_toList, h4]
  rfl
/-! ### lists of tuples -/
structure TpAt (H : Hp) (xs : List V) (ps : List (List V)) : Prop where
  len : xs.length = ps.length
  row : ∀ (i : Nat) (p : List V), ps[i]? = some p → ∃ r, xs[i]? = some (V.ref r) ∧ H r = some (.tup p)
theorem TpAt.mono {H H' : Hp} {xs : List V} {ps : List (List V)} (h : TpAt H xs ps) (e : Ex H H') : TpAt H' xs ps := ⟨h.len, fun i p q => by
  obtain ⟨r, a, b⟩ := h.row i p q
  exact ⟨r, a, e _ _ b⟩⟩
theorem TpAt.upd {H : Hp} {xs : List V} {ps : List (List V)} {l : Addr} {o u : HO} (h : TpAt H xs ps) (hl : H l = some u) (hu : ∀ ys, u ≠ .tup ys) : TpAt (upd H l o) xs ps := ⟨h.len, fun i p q => by
  obtain ⟨r, a, b⟩ := h.row i p q
  refine ⟨r, a, ?_⟩
  rw [upd_ne]
  · exact b
  · intro z
    rw [z, hl] at b
    exact hu _ (Option.some.inj b)⟩
theorem TpAt.nil {H : Hp} : TpAt H [] [] := ⟨rfl, fun i p q => by simp at q⟩
theorem TpAt.snoc {H : Hp} {xs : List V} {ps : List (List V)} {r : Addr} {p : List V} (h : TpAt H xs ps) (hr : H r = some (.tup p)) : TpAt H (xs ++ [.ref r]) (ps ++ [p]) := by
  refine ⟨by rw [List.length_append, List.length_append, h.len]; rfl, fun i q e => ?_⟩
  by_cases hi : i < ps.length
  · rw [List.getElem?_append_left hi] at e
    obtain ⟨r', a, b⟩ := h.row i q e
    exact ⟨r', by rw [List.getElem?_append_left (by rw [h.len]; exact hi)]; exact a, b⟩
  · have h1 := (List.getElem?_eq_some_iff.mp e).1
    rw [List.length_append] at h1
    have e2 : i = ps.length := by
      simp at h1
      omega
    subst e2
    have e3 : p = q := by simpa using e
    subst e3
    refine ⟨r, ?_, hr⟩
    rw [← h.len]
    simp
/-- a new list of new tuples over zip(a text, a list) -/
theorem run_lcZ {σ : L2.St} {H : Hp} {te : TE} {x : List Nat} {b : Addr} {ys : List V} {tp : TA} {j1 j2 : Nat} {vs : List Nat} {Q : VK} (v : Nat → List V) (h : EvA tp σ H [tx x, .ref b]) (hy : SqL K H b ys) (hl : ys.length = x.length) (hz : x.length ≤ 40000)
    (hw : ∀ a b, wipe (((wipe σ vs).set j1 (some a)).set j2 (some b)) vs = wipe σ vs)
    (he : ∀ (i c : Nat) (y : V) H1, Ex H H1 → x[i]? = some c → ys[i]? = some y → EvU te (((wipe σ vs).set j1 (some (tx [c]))).set j2 (some y)) H1 (v i))
    (k : ∀ l xs H1, H l = none → Ex H H1 → H1 l = some (.lst xs) → TpAt H1 xs ((List.range x.length).map v) → Q (.ref l) H1) :
    tLc (iZipSL K tp) (gTup K 2 (gCons (gName j1) (gCons (gName j2) gNil))) tYes te vs σ H Q := h H (Ex.refl H) _ fun H1 e1 => ⟨SX.S x, b, ys, rfl, ex_l e1 hy, fun Dl hD => by
  have hn : min (SX.S x).cps.size ys.length = x.length := by
    show min x.toArray.size ys.length = _
    rw [List.size_toArray, hl, Nat.min_self]
  have hD0 : H Dl = none := fresh_back e1 hD
  refine lc_it walk_zsl (fun i H' => Ex H H' ∧ ∃ xs, H' Dl = some (.lst xs) ∧ TpAt H' xs ((List.range i).map v)) ⟨e1.trans (Ex.new hD), [], upd_same, .nil⟩ (fun i H' _ p => ex_l p.1 hy) (fun i z H' H2 hi p yp => ?_) (fun H' p => ?_)
  · obtain ⟨T, a, d, rfl, hT, rfl, ha, hd⟩ := yp
    obtain ⟨p1, xs, p2, p3⟩ := p
    have ha2 : (x[i]?).map (fun c => tx [c]) = some a := ha
    have hd2 : ys[i]? = some d := hd
    cases hx : x[i]? with
    | none =>
      rw [hx] at ha2
      cases ha2
    | some c =>
    rw [hx] at ha2
    cases ha2
    have hxl := (List.getElem?_eq_some_iff.mp hx).1
    have e2 : Ex H (L2.upd H' T (.tup [tx [c], d])) := p1.trans (Ex.new hT)
    refine ⟨T, _, rfl, st_of upd_same, rfl, _, _, rfl, _, _, rfl, rfl, hw _ _, ?_⟩
    refine et_yes _ (Ex.refl _) _ fun H3 e3 => ?_
    rw [if_pos rfl]
    have e3' : Ex H H3 := e2.trans e3
    refine he i c d H3 e3' hx hd2 H3 (Ex.refl _) _ fun r H4 hr e4 h4 => ?_
    have g4 := e4 _ _ (e3 _ _ (Ex.new hT _ _ p2))
    have hlen := p3.len
    rw [List.length_map, List.length_range] at hlen
    refine ⟨xs, g4, sz_lt (by omega), (e3'.trans e4).mut hD0, xs ++ [.ref r], upd_same, ?_⟩
    rw [List.range_succ, List.map_append]
    have hTp := ((p3.mono ((Ex.new hT).trans (e3.trans e4))).snoc h4)
    exact hTp.upd g4 (fun ys => by intro z; cases z)
  · rw [hn] at p
    obtain ⟨p1, xs, p2, p3⟩ := p
    exact k Dl xs H' hD0 p1 p2 p3⟩
end
/-! ### text.find(text, start) -/
section
theorem take_getD {l : List Nat} {i : Nat} (h : i < l.length) : l[i]? = some (l.getD i 0) := by
  rw [List.getD_eq_getElem?_getD, List.getElem?_eq_getElem h]
  rfl
end
end Ver
namespace Ver
open PySem PySem.Spec PyProof.Rows L2 Evl
/-! ### math.isqrt -/
def rIsq : List V → Hp → VK → Prop := fun vs H Q => ∃ a : Int, vs = [.int a] ∧ 0 ≤ a ∧ a < 2 ^ 200 ∧ ∀ r : Nat, r * r ≤ a.toNat → a.toNat < (r + 1) * (r + 1) → Q (.int (r : Int)) H
theorem Vals.int1 {a : Int} {us : List Value} (r : Vals [.int a] us) : ∃ t, us = [.int a t] := by
  cases r with
  | cons h t =>
    cases t
    obtain ⟨t, rfl⟩ := h
    exact ⟨t, rfl⟩
theorem cr_isqrt {X : Cx} : CallR X (.builtin "math.isqrt") rIsq := by
  intro pins s σ H vs us Q I r h
  obtain ⟨a, rfl, h0, h1, q⟩ := h
  obtain ⟨t, rfl⟩ := Vals.int1 r
  have hl : a.toNat.log2 ≤ 199 := PySem.W.mg_log (by
    have : (a.toNat : Int) < 2 ^ 200 := by omega
    exact_mod_cast this)
  obtain ⟨k1, k2⟩ := PySem.Float64.isqrt_spec a.toNat
  exact PySem.call_function_meets PySem.W.MGF.kind_isqrt PySem.W.MGF.plain_isqrt PySem.W.MGF.entry_isqrt (PySem.W.MGF.args_isqrt _) (PySem.W.mg_run_isqrt a t (by omega) (by omega) (by omega)).meets ⟨.int _, H, I.tok _, ⟨_, rfl⟩, q _ k1 k2⟩
theorem q_asgX {σ : L2.St} {H : Hp} {D : Ends} {tz : TS} {te : TE} {i : Nat} (h : te σ H fun x H1 => tz D (σ.set i (some x)) H1) : tSeq (tAsg te (gName i)) tz D σ H := h
/-- a list made over enumerate(a list) -/
theorem el_lcEn {σ : L2.St} {H : Hp} {K : PySem.W.Frag} {te : TE} {a : Addr} {xs : List V} {tp : TA} {j1 j2 : Nat} {vs : List Nat} (v : Nat → V) (h : EvA tp σ H [.ref a]) (hx : SqL K H a xs) (hz : xs.length ≤ 40000)
    (hw : ∀ a b, wipe (((wipe σ vs).set j1 (some a)).set j2 (some b)) vs = wipe σ vs)
    (he : ∀ (i : Nat) (x : V) H1, Ex H H1 → xs[i]? = some x → Ev te (((wipe σ vs).set j1 (some (.int (i : Int)))).set j2 (some x)) H1 (v i)) :
    EvL (tLc (iEnum K tp) (gTup K 2 (gCons (gName j1) (gCons (gName j2) gNil))) tYes te vs) σ H ((List.range xs.length).map v) := fun H0 e Q q => h H0 e _ fun H1 e1 => ⟨a, xs, rfl, ex_l (e.trans e1) hx, fun Dl hD => by
  refine lc_it (walk_enum (xs := xs)) (Cw H1 (fun _ => true) v Dl) ⟨hD, Ex.new hD, upd_same⟩ (fun i H' _ p => ex_l (((e.trans e1).trans p.2.1)) hx) (fun i z H' H2 hi p yp => ?_) (fun H' p => ?_)
  · obtain ⟨T, c, d, rfl, hT, rfl, ha, hb⟩ := yp
    obtain rfl := Option.some.inj ha
    have hb2 : xs[i]? = some d := hb
    have hxl := (List.getElem?_eq_some_iff.mp hb2).1
    have p2 : Cw H1 (fun _ => true) v Dl i (L2.upd H' T (.tup [.int (i : Int), d])) := ⟨p.1, p.2.1.trans (Ex.new hT), Ex.new hT _ _ p.2.2⟩
    exact ⟨T, _, rfl, st_of upd_same, rfl, _, _, rfl, _, _, rfl, rfl, hw _ _, cw_turn p2 (by omega) et_yes fun _ => he i d H1 (e.trans e1) hb2⟩
  · have e9 := given_all xs.length v
    have p3 := p.2.2
    rw [e9] at p3
    exact q Dl H' (fresh_back e1 p.1) (e1.trans p.2.1) p3⟩
theorem root_ex {a : Int} (h : 0 ≤ a) : ∃ r : Nat, (r : Int) * r ≤ a ∧ a < ((r : Int) + 1) * (r + 1) := by
  obtain ⟨k1, k2⟩ := PySem.Float64.isqrt_spec a.toNat
  refine ⟨PySem.Float64.isqrt a.toNat, ?_, ?_⟩
  · have : ((PySem.Float64.isqrt a.toNat * PySem.Float64.isqrt a.toNat : Nat) : Int) ≤ a := by omega
    rw [Int.natCast_mul] at this
    exact this
  · have : a < (((PySem.Float64.isqrt a.toNat + 1) * (PySem.Float64.isqrt a.toNat + 1) : Nat) : Int) := by omega
    rw [Int.natCast_mul, Int.natCast_add] at this
    exact this
/-- a def's call with a value and a new list -/
theorem ev_cVL {σ : L2.St} {H : Hp} {sp : Sp} {E : XK} {t1 tl : TE} {x1 y : V} {xs : List V} (h1 : Ev t1 σ H x1) (hl : EvL tl σ H xs) (hs : ∀ p H1, Ex H H1 → H1 p = some (.lst xs) → SpV sp ([x1, .ref p] ++ []) H1 y) : Ev (tCall sp [] E (tCons t1 (tCons tl tNil))) σ H y := fun H0 e Q q =>
  h1 H0 e _ fun H1 e1 => hl H1 (e.trans e1) _ fun p H2 hp e2 g2 => hs p H2 ((e.trans e1).trans e2) g2 H2 (Ex.refl H2) Q (fun H3 e3 => q H3 ((e1.trans e2).trans e3)) _
theorem sum_cast {α : Type} (f : α → Nat) : ∀ l : List α, (l.map fun x => ((f x : Nat) : Int)).sum = ((l.map f).sum : Int)
  | [] => rfl
  | a :: l => by
    rw [List.map_cons, List.map_cons, List.sum_cons, List.sum_cons, sum_cast f l, Int.natCast_add]
/-! ### own methods -/
structure AtM (K : PySem.W.Frag) (C : Addr) (m q : Str) (st : Stmt) : Prop where
  ex : ∃ f fd, Fun K m q st f fd ∧ Meth K C m f
def HasM (P : Program) (w : World) (K : PySem.W.Frag) (mg : Str → Option Value) (base : Heap) (C : Addr) (m : Str) (ps : List Str) (k : Nat) (sp : Sp) : Prop :=
  ∃ f fd, FnOk P w K mg base CX0 k f fd ps sp ∧ Binds K fd ps [] ∧ Meth K C m f
section
variable {σ : L2.St} {H : Hp}
theorem ev_isqrt {ta : TE} {a : Int} {Q : V → Prop} (ha : Ev ta σ H (.int a)) (h0 : 0 ≤ a) (h1 : a < 2 ^ 200) (r : Nat) (hr : (r : Int) * r ≤ a) (hr2 : a < ((r : Int) + 1) * (r + 1)) : Ev (tCB rIsq (tCons ta tNil)) σ H (.int (r : Int)) := fun H1 e Q q =>
  ha H1 e _ fun H2 e2 => ⟨a, rfl, h0, h1, fun s k1 k2 => by
    have e1 : s = r := by
      have a1 : s * s < (r + 1) * (r + 1) := by
        have : ((s * s : Nat) : Int) < (((r + 1) * (r + 1) : Nat) : Int) := by
          rw [Int.natCast_mul, Int.natCast_mul, Int.natCast_add]
          have : ((s * s : Nat) : Int) ≤ a := by omega
          rw [Int.natCast_mul] at this
          exact Int.lt_of_le_of_lt this hr2
        omega
      have a2 : r * r < (s + 1) * (s + 1) := by
        have : ((r * r : Nat) : Int) ≤ a := by
          rw [Int.natCast_mul]
          exact hr
        omega
      have b1 : s < r + 1 := Classical.byContradiction fun c => absurd (Nat.mul_le_mul (show r + 1 ≤ s by omega) (show r + 1 ≤ s by omega)) (by omega)
      have b2 : r < s + 1 := Classical.byContradiction fun c => absurd (Nat.mul_le_mul (show s + 1 ≤ r by omega) (show s + 1 ≤ r by omega)) (by omega)
      omega
    rw [e1]
    exact q H2 e2⟩
/-- the call of an own method -/
theorem ev_meth {C a dx : Addr} {fs : List (Str × V)} {m : Str} {sp : Sp} {ta : TE} {t : TA} {vs : List V} {v : V} {E : XK} (ha : Ev ta σ H (.ref a)) (hi : H a = some (.ins C dx fs)) (hl : fs.lookup m = none) (ht : EvA t σ H vs) (h : ∀ H1, Ex H H1 → ∀ Q : VK, (∀ H2, Ex H1 H2 → Q v H2) → sp (.ref a :: (vs ++ [])) H1 Q E) :
    Ev (tMeth C m sp [] E ta t) σ H v := fun H1 e Q q => ha H1 e _ fun H2 e2 => ⟨a, dx, fs, rfl, (e.trans e2) _ _ hi, hl, ht H2 (e.trans e2) _ fun H3 e3 => h H3 ((e.trans e2).trans e3) Q fun H4 e4 => q H4 ((e2.trans e3).trans e4)⟩
end
end Ver
namespace Ver
open PySem PySem.Spec PyProof.Rows L2
/-! ### try: .. except X as n: .. except Y as n: .. -/
def asEnds (i : Nat) (D : Ends) : Ends := { nx := fun σ' H' => D.nx (σ'.set i none) H', rt := D.rt, bk := fun σ' H' => D.bk (σ'.set i none) H', ct := fun σ' H' => D.ct (σ'.set i none) H' }
abbrev Suite := Addr → Value → Option Addr → TS
/-- what the clauses wish of an error of the body, one after the other; slot i is their name's -/
def wMas (K : PySem.W.Frag) (i : Nat) (Wout : WX) (D : Ends) : List (Value × Suite) → WX
  | [] => Wout
  | (c, ts) :: r => fun cls d σ H => ∃ b, PySem.W.exmOne K cls c = some b ∧ (b = true → ∀ a, H a = none → ts a cls d (asEnds i D) (σ.set i (some (.ref a))) H) ∧ (b = false → wMas K i Wout D r cls d σ H)
inductive HdsAs (X : Cx) (n : Str) : List ExceptHandler → List (Value × Suite) → Prop
  | nil : HdsAs X n [] []
  | cons {x : Str} {c : Value} {ts : Suite} {b₀ : Stmt} {suite : List Stmt} {np pos' : Pos} {hds : List ExceptHandler} {l : List (Value × Suite)} (hc : Names X x c)
      (hsu : ∀ (a : Addr) (oe : Obj) (cls : Value) (d : Option Addr) (pn : List (Addr × Obj)), Zc cls d oe → (∃ vs, oe.data = .fields vs) → PSs (X.suite a ((a, oe) :: pn)) (b₀ :: suite) (ts a cls d)) (r : HdsAs X n hds l) :
      HdsAs X n (.ExceptHandler (some (.Name x np)) (some n) (b₀ :: suite) pos' :: hds) ((c, ts) :: l)
section
variable {X : Cx} {body : List Stmt} {n : Str} {i : Nat} {h₀ : ExceptHandler} {hds : List ExceptHandler} {l : List (Value × Suite)} {pos : Pos} {tb : WX → TS} {Wout : WX}
theorem ps_try_mas (hs : X.stack = X.env :: X.outer) (hf : X.env.frame = some X.env.locals) (hN : X.N.Nodup) (hi : X.N[i]? = some n) (hln : X.env.kindOf n = some .local) (tk : Takes X Wout)
    (hb : ∀ (W : WX) (pn : List (Addr × Obj)) (xe : Value → Shared → Prop), Takes (X.tr pn xe) W → PassesOwn (model X.prog X.w) X.A X.env xe → PSs (X.tr pn xe) body (tb W))
    (hh : HdsAs X n (h₀ :: hds) l) : PS X (.Try body (h₀ :: hds) [] [] pos) (fun D σ H => tb (wMas X.K i Wout D l) D σ H) := by
  refine ⟨fun pins s σ H D I h => ?_⟩
  have ok := I.ok
  have hfr : X.A.frames = some (X.env :: X.outer) := by rw [ok.frames, hs]
  have hloc : Loc X.env.scope n := .inl hln
  refine wpAny_Try_except ?_
  refine wpAny_mono ((hb (wMas X.K i Wout D l) (X.pn ++ pins) (fun e s₁ => wpAny (model X.prog X.w) X.A (noteFrame e X.env) (fun _ s₂ => wpAny (model X.prog X.w) X.A (setFlight e none) (fun _ s₃ =>
    wpAny (model X.prog X.w) X.A (handleBy e X.env (h₀ :: hds)) (SP X pins D) X.xe s₃) X.xe s₂) X.xe s₁) (fun u s' xx => ?_) PassesOwn.looking).run [] s σ H D (I.toTry _) h) (fun f s1 hsp => ?_) (fun e s1 he => he)
  · obtain ⟨a, B, sI, pins', σ', H', cls, d, rfl, J', nb, up, sky, na, os, ag, w⟩ := xx
    have J : Inv X pins σ' H' sI := J'.ofTry ok
    have sky' : Sky B (X.env :: X.outer) a (Zc cls d) X.env.locals s'.heap := by rw [← hs]; exact sky
    show wpAny (model X.prog X.w) X.A (noteFrame (.ref a) X.env) _ _ _
    refine Sky.land Zc.steady hfr hf sky' fun h3 fl3 up3 => ?_
    have J3 : Inv X pins σ' H' { s' with heap := h3 } := J.landed nb fl3.1 (up.trans up3) os ag
    obtain ⟨oe3, vs3, he3, hz3, hd3⟩ := fl3.there
    have notFr : ∀ {h : Heap} {o : Obj} {vs : Array Value}, h.FunFrames B (X.env :: X.outer) → h.get? a = some o → o.data = .fields vs → a ∉ frs (X.env :: X.outer) := fun {h o vs} ff e dd hm => by
      obtain ⟨_, o', e', hnf⟩ := ff.mem hm
      rw [e] at e'; cases e'
      exact hnf _ dd
    have nfr := notFr fl3.2.2.1 he3 hd3
    have nL : a ≠ X.env.locals := fun z => nfr (List.mem_filterMap.mpr ⟨X.env, List.mem_cons_self, by rw [hf, z]⟩)
    have nF : a ∉ X.fs := fun hm => by
      obtain ⟨e, he, q⟩ := List.mem_filterMap.mp hm
      exact nfr (List.mem_filterMap.mpr ⟨e, List.mem_cons_of_mem _ he, q⟩)
    have S3 := J3.suite he3 hd3 na nL nF
    have go : ∀ {hds' : List ExceptHandler} {l' : List (Value × Suite)}, HdsAs X n hds' l' → wMas X.K i Wout D l' cls d σ' H' →
        wpAny (model X.prog X.w) X.A (handleBy (.ref a) X.env hds') (SP X pins D) X.xe { s' with heap := h3 } := by
      intro hds' l' hk
      induction hk with
      | nil =>
        intro w
        refine wpAny_handleBy_nil ?_
        obtain ⟨k1, k2, k3, oe, vs, T, oT, ts', he, hz, hd, h1, hr⟩ := id fl3
        unfold PySem.passOn
        refine wpAny_bind (wpAny_field he hd h1 ?_)
        rw [if_neg (show ¬ ((Value.ref T == Value.none) = true) from by simp)]
        have fin : wpAny (model X.prog X.w) X.A (setFlight (.ref a) X.env.frame) (fun _ s4 => wpAny (model X.prog X.w) X.A (throw (.ref a) : Sem Flow) (SP X pins D) X.xe s4) X.xe { s' with heap := h3 } := by
          rw [hf]
          refine HandSPX.setFlight_upZ fl3 fun h4 hh4 up4 => wpAny_throw (tk _ _ ?_)
          exact ⟨a, B, sI, pins, σ', H', cls, d, rfl, J, nb, (up.trans up3).trans up4, .inr (.inr (by rw [hs]; exact hh4)), na, os, ag, w⟩
        first
          | exact wpAny_bind (wpAny_pure (wpAny_bind fin))
          | exact wpAny_bind fin
      | @cons x c ts b₀ suite np pos' hds2 l2 hc hsu r ih =>
        intro w
        obtain ⟨b, hb1, hyes, hno⟩ := w
        refine wpAny_handleBy_cons (codeAny_handlers_test ?_) (by intro q; cases q)
        have LT : PySem.W.Looks (model X.prog X.w) h3 (typeOf (.ref a)) cls := fun A Q E s k q => wpAny_typeOf_ref (k _ _ he3) (by rw [hz3.1]; exact q)
        have LM := PySem.W.exm_one (M := model X.prog X.w) (J3.kIn) LT hb1
        have test : ∀ {Q : Value → Shared → Prop} {E : Value → Shared → Prop}, Q c { s' with heap := h3 } → wpAny (model X.prog X.w) (X.A.mark (some (.ref a))) (eval (.Name x np) X.env) Q E { s' with heap := h3 } := fun {Q E} q => by
          obtain ⟨hg, hdbg, hm | ⟨hm, hv, hnn⟩⟩ := hc
          · exact ld_glob (X := X.suite a ((a, oe3) :: (X.pn ++ pins))) S3 hg hm q hdbg
          · exact ld_blt (X := X.suite a ((a, oe3) :: (X.pn ++ pins))) S3 hg hm hv q hnn hdbg
        refine test (LM.here ?_)
        cases b with
        | true =>
          refine codeAny_handlers_suite_as ?_
          refine HandSPX.lands_againZ fl3 fun h4 fl4 up4 => ?_
          have J4 : Inv X pins σ' H' { s' with heap := h4 } := J.landed nb fl4.1 ((up.trans up3).trans up4) os ag
          obtain ⟨oe4, vs4, he4, hz4, hd4⟩ := fl4.there
          have S4 := J4.suite he4 hd4 na nL nF
          refine store_ok (X := X.suite a ((a, oe4) :: (X.pn ++ pins))) (v := .ref a) S4 hN hi hloc rfl (fun s5 S5 => ?_) (.inr hln)
          refine wpAny_mono ((hsu a oe4 cls d (X.pn ++ pins) hz4 ⟨_, hd4⟩).run [] s5 _ H' _ S5 (hyes rfl a na)) (fun f s6 hsp => ?_) (fun _ _ z => False.elim z)
          have end_ : ∀ {σ6 : L2.St} {H6 : Hp} {Q : Shared → Prop}, Inv (X.suite a ((a, oe4) :: (X.pn ++ pins))) [] σ6 H6 s6 → (∀ s7, Inv X pins (σ6.set i none) H6 s7 → Q s7) →
              wpAny (model X.prog X.w) X.A (do bindName X.env n .none; unbindBehindTheSuite X.env n pos') (fun _ s7 => Q s7) X.xe s6 := fun {σ6 H6 Q} S6 hq => gone_ok (S6.unsuite ok) hN hi hln hq
          cases f with
          | next =>
            obtain ⟨σ6, H6, S6, q6⟩ := hsp
            exact end_ S6 fun s7 J7 => ⟨_, _, J7, q6⟩
          | brk =>
            obtain ⟨σ6, H6, S6, q6⟩ := hsp
            exact end_ S6 fun s7 J7 => ⟨_, _, J7, q6⟩
          | cont =>
            obtain ⟨σ6, H6, S6, q6⟩ := hsp
            exact end_ S6 fun s7 J7 => ⟨_, _, J7, q6⟩
          | ret u =>
            obtain ⟨v6, σ6, H6, S6, r6, q6⟩ := hsp
            exact end_ S6 fun s7 J7 => ⟨_, _, _, J7, r6, q6⟩
        | false =>
          show wpAny _ X.A (handleBy (.ref a) X.env hds2) _ _ _
          exact ih (hno rfl)
    exact go hh w
  · cases f with
    | next =>
      obtain ⟨σ', H', J', q⟩ := hsp
      exact wpAny_execs_nil ⟨σ', H', J'.ofTry ok, q⟩
    | brk =>
      obtain ⟨σ', H', J', q⟩ := hsp
      exact ⟨σ', H', J'.ofTry ok, q⟩
    | cont =>
      obtain ⟨σ', H', J', q⟩ := hsp
      exact ⟨σ', H', J'.ofTry ok, q⟩
    | ret u =>
      obtain ⟨v, σ', H', J', r, q⟩ := hsp
      exact ⟨v, σ', H', J'.ofTry ok, r, q⟩
end
theorem roomM {k : Nat} {A : Around} {v : Option Value} (r : Room k A) : L2H.RoomH k (A.mark v) := ⟨r.dp, r.un⟩
/-! ### a def that is handed the caught error -/
open L2H in
structure FnP (P : Program) (w : World) (K : PySem.W.Frag) (mg : Str → Option Value) (base : Heap) (k : Nat) (f : Addr) (fd : FuncData) (ps : List Str) (sp : Addr → Value → Option Addr → Sp) : Prop where
  len : ∀ a cls d vs H Q E, sp a cls d vs H Q E → vs.length = ps.length
  run : ∀ (A : Around) (outer : List Env) (s : Shared) (H : Hp) (args : Args) (us : List Value) (vs : List V) (Q : VK) (E : XK) (p : Addr × Obj) (cls : Value) (d : Option Addr), RoomH k A → PinOk outer H s p → Zc cls d p.2 → (∃ fv, p.2.data = .fields fv) → Env0 P w K mg base A outer s H → BindsTo s fd args (ps.zip us) → Vals vs us → sp p.1 cls d vs H Q E →
    codeAny (model P w) A (.call (.ref f) args) (CR CX0 outer P w H s Q E) s
open L2H in
theorem fn_ofP {P : Program} {w : World} {K : PySem.W.Frag} {mg : Str → Option Value} {base : Heap} {k : Nat} {f : Addr} {name qual : Str} {params : Arguments} {body : List Stmt} {scope : Scope} {dV kV doc pm cdv ct oc : Value} {an od : Option Addr}
    {osl : Array (Option Value)} {N ps : List Str} {sp : Addr → Value → Option Addr → Sp} (lk : K.lookup f = some ⟨oc, od, .func (PySem.W.fnOf name qual params body scope dV kV doc pm an cdv ct), osl⟩) (hcd : PySem.W.codeIn K cdv qual = true) (S : FnScope N ps scope)
    (len : ∀ a cls d vs H Q E, sp a cls d vs H Q E → vs.length = ps.length)
    (hbody : ∀ (A : Around) (outer : List Env) (s : Shared) (H : Hp) (vs : List V) (Q : VK) (E : XK) (p : Addr × Obj) (cls : Value) (d : Option Addr), Zc cls d p.2 → (∃ fv, p.2.data = .fields fv) → RoomH k (A.deeper (envOfC qual scope s.heap.objs.size f cdv)) → sp p.1 cls d vs H Q E →
      ∃ t, PSs (cxH CX0 P w K mg base N qual scope f cdv A outer s H E p) body t ∧ t { nx := fun _ H' => Q .non H', rt := Q } (L2.start N vs) H) :
    FnP P w K mg base (k + 1) f (PySem.W.fnOf name qual params body scope dV kV doc pm an cdv ct) ps sp := by
  refine ⟨len, fun A outer s H args us vs Q E p cls d hr hpin hz hf e0 hb r hsp => ?_⟩
  have hl := len _ _ _ _ _ _ _ hsp
  have KX : K.In s.heap := e0.mod.kin.keeps fun b o e => (e0.bs b o e).1
  have lim : s.heap.NoLimit := e0.mod.nolimit.keeps fun b o e => (e0.bs b o e).1
  have hkind : ∀ y ∈ ps.zip us, scope.names.lookup y.1 = some .local ∨ (scope.names.lookup y.1 = some .cell ∧ ((cellsFrom (s.heap.objs.size + 1) scope.names []).lookup y.1).isSome = true) := fun ⟨n, v⟩ hy => by
    rcases S.par n (List.of_mem_zip hy).1 with q | q
    · exact .inl q
    · exact .inr ⟨q, PySem.W.cellsFrom_some _ _ _ (.inl q)⟩
  refine codeAny_call_function hr.depth (KX _ _ lk) rfl S.co S.gen rfl (PySem.W.codeRec_of KX hcd) (hb _ _ _ _ ?_)
  refine wpAny_newFunctionEnv_cells S.kind hkind fun env he s1 x => ?_
  subst he
  refine ⟨lim.keeps x.toInCall.keep, codeAny_func ?_⟩
  obtain ⟨t, ht, hq⟩ := hbody A outer s H vs Q E p cls d hz hf (hr.deeper _) hsp
  have I : Inv (cxH CX0 P w K mg base N qual scope f cdv A outer s H E p) [] (L2.start N vs) H s1 := inv_startH S hpin e0 hl r x
  refine wpAny_mono (ht.run [] s1 (L2.start N vs) H _ I hq) (fun fl s' hs => ?_) fun e s' hs => hs
  have fin : ∀ {σ' : L2.St} {H' : Hp} {v : V} {u : Value}, Inv (cxH CX0 P w K mg base N qual scope f cdv A outer s H E p) [] σ' H' s' → RelV v u → Q v H' → CE outer P w H s Q u s' :=
    fun {σ' H' v u} J rv q => ⟨v, H', J.os, J.bare, J.base, J.hok, rv, q⟩
  cases fl with
  | ret u =>
    obtain ⟨v, σ', H', J, rv, q⟩ := hs
    exact fin J rv q
  | next =>
    obtain ⟨σ', H', J, q⟩ := hs
    exact fin (v := V.non) (u := Value.none) J rfl q
  | brk =>
    obtain ⟨_, _, _, q⟩ := hs
    exact False.elim q
  | cont =>
    obtain ⟨_, _, _, q⟩ := hs
    exact False.elim q
section
variable {X : Cx} {k : Nat} {f : Addr} {fd : FuncData} {ps : List Str} {sp : Addr → Value → Option Addr → Sp} {x : Str} {q pos : Pos} {e : Expr} {es : List Expr} {t : TA}
open L2H in
theorem pe_callP {p : Addr × Obj} {a : Addr} {cls : Value} {d : Option Addr} (ea : p.1 = a) (F : FnP X.prog X.w X.K X.mg X.base k f fd ps sp) (hr : RoomH k X.A) (hp : p ∈ X.pn) (hz : Zc cls d p.2) (hf : ∃ fv, p.2.data = .fields fv) (hg : Gl X x) (hm : X.mg x = some (.ref f)) (hk : PySem.W.keepIn X.K (.ref f) = true) (hb : Binds X.K fd ps [])
    (ha : PA X (e :: es) t) (hdb : (x == ("__debug__" : Str)) = false := by decide) (he : starEach (e :: es) X.env = (false, eval e X.env) :: starEach es X.env := by rfl) (hpl : (backTo pos (starEach es X.env)).any (·.1) = false := by rfl) :
    PE X (.Call (.Name x q) (e :: es) [] pos) (tCall (sp a cls d) [] E0 t) := by
  subst ea
  refine ⟨fun pins s σ H Q I h => ?_⟩
  refine wpAny_Call_Name_kw (ld_glob I hg hm ?_ hdb)
  refine PySem.W.callWith_K (h₀ := X.base) I.ok.mod.kin hk (thn (ha.run pos pins s σ H _ I h) fun us s1 ⟨vs, H1, I1, r, h1⟩ => ⟨I1.kIn, ?_⟩) he hpl
  have h : sp p.1 cls d vs H1 Q E0 := by
    have h2 : sp p.1 cls d (vs ++ []) H1 Q E0 := h1
    rw [List.append_nil] at h2
    exact h2
  have hl : us.length = ps.length := by rw [← r.length]; exact F.len _ _ _ _ _ _ _ h
  have b := hb s1 us I1.kIn (by rw [List.append_nil]; exact hl)
  rw [List.append_nil] at b
  have P1 := I1.pin p (List.mem_append_left _ hp)
  have hpin : PinOk X.stack H1 s1 p := ⟨P1.1, P1.2.1, fun hm => (List.mem_cons.mp (I1.stkSub p.1 hm)).elim P1.2.2.1 P1.2.2.2.1, P1.2.2.2.2⟩
  refine wpAny_call (codeAny_mono (F.run X.A X.stack s1 H1 ⟨us, []⟩ us vs Q E0 p cls d hr hpin hz hf I1.env0 b r h) fun r s' hq => ?_)
  cases r with
  | error e => exact hq.elim
  | ok fl =>
    cases fl with
    | ret u => exact I1.after hq
    | next => exact False.elim hq
    | brk => exact False.elim hq
    | cont => exact False.elim hq
end
/-- n.f, n the error at a -/
def tXp (a : Addr) (cls : Value) (d : Option Addr) (C : Addr) (f : Str) (te : TE) : TE := fun σ H Q => te σ H fun x H1 => x = .ref a ∧ cls = .ref C ∧ ∃ (dd : Addr) (fs : List (Str × V)) (v : V), d = some dd ∧ H1 dd = some (.xd fs) ∧ fs.lookup f = some v ∧ Q v H1
theorem pe_xp {X : Cx} {C : Addr} {p : Addr × Obj} {a : Addr} {cls : Value} {d : Option Addr} {e : Expr} {te : TE} {pos : Pos} {n : Str} (ea : p.1 = a) (hp : p ∈ X.pn) (T : XfC X.K C) (hno : PySem.W.findIn X.K (.ref C) n = some none)
    (hz : Zc cls d p.2) (hf : ∃ vs, p.2.data = .fields vs) (he : PE X e te) (hb : attributeBase e n X.env (eval e X.env) = eval e X.env := by rfl) : PE X (.Attribute e n pos) (tXp a cls d C n te) := by
  subst ea
  refine ⟨fun pins s σ H Q I h => ?_⟩
  refine attr_of hb (thn (he.run pins s σ H _ I h) fun u s1 hh => ?_)
  obtain ⟨x, H1, I1, rx, ex, ec, dd, fs, v, ed, ea, l, q⟩ := hh
  subst ex
  obtain rfl : u = Value.ref p.1 := rx
  subst ec
  subst ed
  obtain ⟨ha, _⟩ := I1.pin p (List.mem_append_left _ hp)
  obtain ⟨vs, hd⟩ := hf
  have hx : ObjOk X.prog X.w H1 s1.heap dd (.xd fs) := I1.hok dd _ ea
  obtain ⟨mA, hns, hr⟩ := hx
  obtain ⟨od, ho, hl⟩ := lookIn_ns hns
  obtain ⟨u, hu, ru⟩ := RelO.some_of (v := v) (o := mA n) (by rw [← l]; exact hr n)
  have J : PySem.W.InstAt s1.heap p.1 p.2 C (some od) := ⟨ha, hz.1, by unfold PySem.W.notCls; rw [hd] <;> rfl, by rw [hz.2]; exact ho⟩
  exact HandSPX.exc_get I1.kIn J T.ga T.gg T.exC (PySem.W.findObj_own T.hdC hno rfl (by rw [hl, hu])) (handed_of ru) ⟨v, H1, I1.tok _, ru, q⟩
end Ver
namespace Ver
open PySem PySem.Spec PyProof.Rows L2
section
variable {X : Cx} {C : Addr} {bmB : List Value} {B newId initId : String} {x : Str} {p pos : Pos}
/-- X(), an error class without fields: a new object -/
theorem pe_exc0 (F : ExcBaseFacts B newId initId bmB) (q : PySem.W.excIn X.K C bmB newId = true) (hg : Gl X x) (gC : X.mg x = some (.ref C)) (kC : PySem.W.keepIn X.K (.ref C) = true) (hdb : (x == ("__debug__" : Str)) = false := by decide) :
    PE X (.Call (.Name x p) [] [] pos) (fun _ H Q => ∀ a, H a = none → Q (.ref a) (upd H a (ExO (.ref C) a))) := by
  refine ⟨fun pins s σ H Q I h => ?_⟩
  refine wpAny_Call_Name_kw (ld_glob I hg gC ?_ hdb)
  refine PySem.W.callWith_K0 I.kIn kC ?_
  obtain ⟨bm, N, nm, qn, bs, hdct, sn, sub, ab, col, dd, k0, k1, k2, k3, k5, mN, hC, hN, hni, T⟩ := exc_obj I.kIn q
  refine wpAny_call_exc_subT F T hC hN hni (fun h' a hm => ?_) (by show 0 ≤ sizeLine; exact Nat.zero_le _)
  have hn : H a = none := I.hok.gone hm.new
  obtain ⟨t, ht, _, _⟩ := hm.there
  exact ⟨.ref a, upd H a (ExO (.ref C) a), I.laidN hm.keeps hm.new hn (exO_ok ht ⟨rfl, rfl⟩ rfl rfl rfl (show 4 < 6 by decide)), rfl, h a hn⟩
/-- .. raised -/
theorem pmk_exc0 (F : ExcBaseFacts B newId initId bmB) (q : PySem.W.excIn X.K C bmB newId = true) (hg : Gl X x) (gC : X.mg x = some (.ref C)) (kC : PySem.W.keepIn X.K (.ref C) = true) (r : Raises X (.ref C)) (hdb : (x == ("__debug__" : Str)) = false := by decide) :
    PMk X (.Call (.Name x p) [] [] pos) (fun _ H Q => Q (.ref C) none H) := by
  intro pins s σ H Q I h
  refine wpAny_Call_Name_kw (ld_glob I hg gC ?_ hdb)
  refine PySem.W.callWith_K0 I.kIn kC ?_
  obtain ⟨bm, N, nm, qn, bs, hdct, sn, sub, ab, col, dd, k0, k1, k2, k3, k5, mN, hC, hN, hni, T⟩ := exc_obj I.kIn q
  refine wpAny_call_exc_subT F T hC hN hni (fun h' e hm => ?_) (by show 0 ≤ sizeLine; exact Nat.zero_le _)
  exact mk_of I hm r h (I.hok.gone hm.new)
end
/-! ### isinstance(e, C), isinstance(e, (A, B, ..)): of an error that stands by, of one that is held -/
theorem pin_at {X : Cx} {pins : List (Addr × Obj)} {σ : L2.St} {H : Hp} {s : Shared} {D : Addr} {p : Addr × Obj} {d : Option Addr} (I : Inv X pins σ H s) (hp : p ∈ X.pn) (hz : Zc (.ref D) d p.2) (hf : ∃ vs, p.2.data = .fields vs) (hd : ∀ dd, d = some dd → ∃ fs, H dd = some (.xd fs)) :
    ∃ od : Option Obj, PySem.W.InstAt s.heap p.1 p.2 D od := by
  obtain ⟨vs, hv⟩ := hf
  obtain ⟨hget, _⟩ := I.pin p (List.mem_append_left _ hp)
  cases d with
  | none =>
    refine ⟨none, ?_⟩
    obtain ⟨a, oc, od, oda, osl⟩ := p
    obtain ⟨h1, h2⟩ := hz
    dsimp only at h1 h2 hv hget
    subst h1 h2 hv
    exact ⟨hget, rfl, rfl, trivial⟩
  | some dd =>
    obtain ⟨fs, ea⟩ := hd dd rfl
    have hx : ObjOk X.prog X.w H s.heap dd (.xd fs) := I.hok dd _ ea
    obtain ⟨mA, hns, hr⟩ := hx
    obtain ⟨od, ho, hl⟩ := lookIn_ns hns
    exact ⟨some od, hget, hz.1, by unfold PySem.W.notCls; rw [hv] <;> rfl, by rw [hz.2]; exact ho⟩
theorem held_at {X : Cx} {pins : List (Addr × Obj)} {σ : L2.St} {H : Hp} {s : Shared} {D a : Addr} (I : Inv X pins σ H s) (ha : H a = some (ExO (.ref D) a)) : ∃ oe : Obj, PySem.W.InstAt s.heap a oe D none := by
  obtain ⟨⟨oe, vs, ho, hz, hv, _⟩, _, _⟩ := I.hok a _ ha
  refine ⟨oe, ?_⟩
  obtain ⟨oc, od, oda, osl⟩ := oe
  obtain ⟨h1, h2⟩ := hz
  dsimp only at h1 h2 hv
  subst h1 h2 hv
  exact ⟨ho, rfl, rfl, trivial⟩
theorem excC_kit {K : PySem.W.Frag} {D a : Addr} {ox : Obj} {od : Option Obj} (C : ExcC K D) : PySem.W.KitX K (.ref a) (.ref D) (fun h => PySem.W.InstAt h a ox D od) :=
  PySem.W.kitx_exc (by obtain ⟨cd, hc, _⟩ := PySem.W.any_some C.hd; rw [hc]; rfl) C.hg C.hk C.hs C.ha C.hn C.ht C.hm
def rIsS (K : PySem.W.Frag) (a : Addr) (cls : Value) (d : Option Addr) : List V → Hp → VK → Prop := fun xs H Q => ∃ (D : Addr) (c : V) (cv : Value) (b : Bool), xs = [.ref a, c] ∧ cls = .ref D ∧ ExcC K D ∧ (∀ dd, d = some dd → ∃ fs, H dd = some (.xd fs)) ∧ ClsV c cv ∧ PySem.W.kitOne K (.ref D) cv = some b ∧ Q (.bl b) H
theorem call_isS {X : Cx} {K : PySem.W.Frag} {p : Addr × Obj} {a : Addr} {cls : Value} {d : Option Addr} (ek : X.K = K) (ea : p.1 = a) (hp : p ∈ X.pn) (hz : Zc cls d p.2) (hf : ∃ vs, p.2.data = .fields vs) : CallR X (.builtin "isinstance") (rIsS K a cls d) := by
  subst ea
  subst ek
  intro pins s σ H xs us Q I r h
  obtain ⟨D, c, cv, b, rfl, rfl, C, hd, hcv, e, q⟩ := h
  obtain ⟨u1, u2, rfl, r1, r2⟩ := vals2 r
  cases (show u1 = Value.ref p.1 from r1)
  obtain ⟨od, J⟩ := pin_at I hp hz hf hd
  have e3 := ClsV.all (.cons hcv .nil) (show Vals [c] [u2] from .cons r2 .nil)
  simp only [List.cons.injEq, and_true] at e3
  subst e3
  exact PySem.W.kia_one (excC_kit C) I.kIn J e (fun z => nomatch z) fun tk => ⟨.bl b, H, I.tok tk, rfl, q⟩
def rIsST (K : PySem.W.Frag) (a : Addr) (cls : Value) (d : Option Addr) : List V → Hp → VK → Prop := fun xs H Q => ∃ (D tp : Addr) (cs : List V) (cvs : List Value) (b : Bool), xs = [.ref a, .ref tp] ∧ cls = .ref D ∧ ExcC K D ∧ (∀ dd, d = some dd → ∃ fs, H dd = some (.xd fs)) ∧ H tp = some (.tup cs) ∧ Paired ClsV cs cvs ∧ PySem.W.kitAny K (.ref D) cvs = some b ∧ Q (.bl b) H
theorem call_isST {X : Cx} {K : PySem.W.Frag} {p : Addr × Obj} {a : Addr} {cls : Value} {d : Option Addr} (ek : X.K = K) (ea : p.1 = a) (hp : p ∈ X.pn) (hz : Zc cls d p.2) (hf : ∃ vs, p.2.data = .fields vs) : CallR X (.builtin "isinstance") (rIsST K a cls d) := by
  subst ea
  subst ek
  intro pins s σ H xs us Q I r h
  obtain ⟨D, tp, cs, cvs, b, rfl, rfl, C, hd, hT, k, e, q⟩ := h
  obtain ⟨u1, u2, rfl, r1, r2⟩ := vals2 r
  cases (show u1 = Value.ref p.1 from r1)
  cases (show u2 = Value.ref tp from r2)
  obtain ⟨od, J⟩ := pin_at I hp hz hf hd
  obtain ⟨_, its, rv, o, h1, h2, n, h3⟩ := (show ObjOk X.prog X.w H s.heap tp (.tup cs) from I.hok tp _ hT)
  have e3 := ClsV.all k rv
  subst e3
  obtain ⟨oc, od2, dt, sl⟩ := o
  simp only at h2 h3
  subst h2 h3
  exact PySem.W.kia_tup (excC_kit C) I.kIn J h1 e (fun z => nomatch z) fun tk => ⟨.bl b, H, I.tok tk, rfl, q⟩
def rIsO (K : PySem.W.Frag) : List V → Hp → VK → Prop := fun xs H Q => ∃ (a D : Addr) (c : V) (cv : Value) (b : Bool), xs = [.ref a, c] ∧ ExcC K D ∧ H a = some (ExO (.ref D) a) ∧ ClsV c cv ∧ PySem.W.kitOne K (.ref D) cv = some b ∧ Q (.bl b) H
theorem call_isO {X : Cx} : CallR X (.builtin "isinstance") (rIsO X.K) := by
  intro pins s σ H xs us Q I r h
  obtain ⟨a, D, c, cv, b, rfl, C, hE, hcv, e, q⟩ := h
  obtain ⟨u1, u2, rfl, r1, r2⟩ := vals2 r
  cases (show u1 = Value.ref a from r1)
  obtain ⟨ox, J⟩ := held_at I hE
  have e3 := ClsV.all (.cons hcv .nil) (show Vals [c] [u2] from .cons r2 .nil)
  simp only [List.cons.injEq, and_true] at e3
  subst e3
  exact PySem.W.kia_one (excC_kit C) I.kIn J e (fun z => nomatch z) fun tk => ⟨.bl b, H, I.tok tk, rfl, q⟩
def rIsOT (K : PySem.W.Frag) : List V → Hp → VK → Prop := fun xs H Q => ∃ (a D tp : Addr) (cs : List V) (cvs : List Value) (b : Bool), xs = [.ref a, .ref tp] ∧ ExcC K D ∧ H a = some (ExO (.ref D) a) ∧ H tp = some (.tup cs) ∧ Paired ClsV cs cvs ∧ PySem.W.kitAny K (.ref D) cvs = some b ∧ Q (.bl b) H
theorem call_isOT {X : Cx} : CallR X (.builtin "isinstance") (rIsOT X.K) := by
  intro pins s σ H xs us Q I r h
  obtain ⟨a, D, tp, cs, cvs, b, rfl, C, hE, hT, k, e, q⟩ := h
  obtain ⟨u1, u2, rfl, r1, r2⟩ := vals2 r
  cases (show u1 = Value.ref a from r1)
  cases (show u2 = Value.ref tp from r2)
  obtain ⟨ox, J⟩ := held_at I hE
  obtain ⟨_, its, rv, o, h1, h2, n, h3⟩ := (show ObjOk X.prog X.w H s.heap tp (.tup cs) from I.hok tp _ hT)
  have e3 := ClsV.all k rv
  subst e3
  obtain ⟨oc, od2, dt, sl⟩ := o
  simp only at h2 h3
  subst h2 h3
  exact PySem.W.kia_tup (excC_kit C) I.kIn J h1 e (fun z => nomatch z) fun tk => ⟨.bl b, H, I.tok tk, rfl, q⟩
end Ver
namespace Ver
open PySem PySem.Spec PyProof.Rows L2 Evl
/-! ### a def that raises nothing, where errors may go by -/
theorem FnOk.up {P : Program} {w : World} {K : PySem.W.Frag} {mg : Str → Option Value} {base : Heap} {k : Nat} {f : Addr} {fd : FuncData} {ps : List Str} {sp : Sp} (F : FnOk P w K mg base CX0 k f fd ps sp) : FnOk P w K mg base (L2.CX P w) k f fd ps sp :=
  ⟨F.len, fun A outer s H args us vs Q E hr he hb hv hs => codeAny_mono (F.run A outer s H args us vs Q E hr he hb hv hs) fun r s' hq => by
    cases r with
    | error e => exact hq.elim
    | ok fl => cases fl <;> exact hq⟩
theorem FnOk.both {P : Program} {w : World} {K : PySem.W.Frag} {mg : Str → Option Value} {base : Heap} {CX : CXT} {k : Nat} {f : Addr} {fd : FuncData} {ps : List Str} {sp sp' : Sp} (F : FnOk P w K mg base CX k f fd ps sp) (G : FnOk P w K mg base CX k f fd ps sp') :
    FnOk P w K mg base CX k f fd ps fun vs H Q E => sp vs H Q E ∨ sp' vs H Q E :=
  ⟨fun vs H Q E h => h.elim (F.len _ _ _ _) (G.len _ _ _ _), fun A outer s H args us vs Q E hr he hb hv hs => hs.elim (F.run A outer s H args us vs Q E hr he hb hv) (G.run A outer s H args us vs Q E hr he hb hv)⟩
/-! ### C(..), whose __init__ may raise -/
section
variable {X : Cx} {CX : CXT} {k : Nat} {f C : Addr} {fd : FuncData} {ps : List Str} {sp : Sp} {E : L2.St → XK} {x : Str} {p pos : Pos} {e : Expr} {es : List Expr} {t : TA}
theorem run_makeS {pins : List (Addr × Obj)} {σ : L2.St} {H : Hp} {s : Shared} {Q : VK} {us : List Value} {vs : List V} (M : Mk X.K C f) (F : FnOk X.prog X.w X.K X.mg X.base CX k f fd ps sp) (hr : Room (k + 1) X.A) (hb : L2.Binds X.K fd ps [])
    (hx : PassesAt CX X σ (E σ)) (I : Inv X pins σ H s) (r : Vals vs us)
    (h : ∀ x dx, H x = none → H dx = none → dx ≠ x → sp (.ref x :: vs) (L2.upd (L2.upd H dx (.own x)) x (.ins C dx [])) (fun v H2 => v = .non ∧ Q (.ref x) H2) (E σ)) :
    wpAny (model X.prog X.w) X.A (call (.ref C) us) (EP X pins σ Q) X.xe s := by
  have hq := h (s.heap.objs.size + 1) s.heap.objs.size (I.hok.fresh (Nat.le_succ _)) (I.hok.fresh (Nat.le_refl _)) (Nat.ne_of_lt (Nat.lt_succ_self _))
  have I2 := Inv.made (C := C) I
  have r2 : Vals (V.ref (s.heap.objs.size + 1) :: vs) (Value.ref (s.heap.objs.size + 1) :: us) := .cons rfl r
  have hl : (Value.ref (s.heap.objs.size + 1) :: us ++ []).length = ps.length := by
    have e := r2.length
    rw [F.len _ _ _ _ hq] at e
    rw [List.append_nil]
    exact e.symm
  have b := hb _ (Value.ref (s.heap.objs.size + 1) :: us) I2.kIn hl
  rw [List.append_nil] at b
  refine wpAny_call (make_map (f := f) I.kIn M.makes M.init (beq_iff_eq.mp M.fn) (codeAny_mono (F.run _ X.stack _ _ ⟨Value.ref (s.heap.objs.size + 1) :: us, []⟩ (Value.ref (s.heap.objs.size + 1) :: us) _ _ (E σ) (hr.make C us [])
    (I2.env0.make C us []) b r2 hq) fun r s' hq' => ?_))
  cases r with
  | error e => exact hx pins _ _ e s' I2 hq'
  | ok fl =>
    cases fl with
    | ret u =>
      obtain ⟨v, H', I3, rv, ev, q3⟩ := I2.after hq'
      subst ev
      exact ⟨rv, ⟨V.ref (s.heap.objs.size + 1), H', I3, rfl, q3⟩⟩
    | next => exact False.elim hq'
    | brk => exact False.elim hq'
    | cont => exact False.elim hq'
def tMakeS (C : Addr) (sp : Sp) (E : L2.St → XK) (t : TA) : TE := fun σ H Q => t σ H fun vs H1 => ∀ x dx, H1 x = none → H1 dx = none → dx ≠ x → sp (.ref x :: vs) (L2.upd (L2.upd H1 dx (.own x)) x (.ins C dx [])) (fun v H2 => v = .non ∧ Q (.ref x) H2) (E σ)
theorem pe_makeS (M : Mk X.K C f) (F : FnOk X.prog X.w X.K X.mg X.base CX k f fd ps sp) (hr : Room (k + 1) X.A) (hg : Gl X x) (hm : X.mg x = some (.ref C)) (hb : L2.Binds X.K fd ps []) (hx : ∀ σ, PassesAt CX X σ (E σ))
    (ha : PA X (e :: es) t) (hdb : (x == ("__debug__" : Str)) = false := by decide) (he : starEach (e :: es) X.env = (false, eval e X.env) :: starEach es X.env := by rfl) (hpl : (backTo pos (starEach es X.env)).any (·.1) = false := by rfl) :
    PE X (.Call (.Name x p) (e :: es) [] pos) (tMakeS C sp E t) := by
  refine ⟨fun pins s σ H Q I h => ?_⟩
  refine wpAny_Call_Name_kw (ld_glob I hg hm ?_ hdb)
  refine PySem.W.callWith_K (h₀ := X.base) I.ok.mod.kin M.kp (thn (ha.run pos pins s σ H _ I h) fun us s1 ⟨vs, H1, I1, r, q⟩ => ⟨I1.kIn, ?_⟩) he hpl
  exact run_makeS M F hr hb (hx σ) I1 r q
end
/-! ### errors with fields -/
/-- __init__ of an error: its fields are fs of what it is handed -/
def spErr (C : Addr) (n : Nat) (fs : List V → List (Str × V)) : Sp := fun vs H Q _ => ∃ (a : Addr) (us : List V), vs = .ref a :: us ∧ us.length = n ∧ H a = some (exo a C none) ∧ ∀ dx H2, H dx = none → dx ≠ a → H2 a = some (exo a C (some dx)) → H2 dx = some (exd dx (fs us)) → (∀ b, b ≠ a → b ≠ dx → H2 b = H b) → Q .non H2
/-- what a def that raises promises: an error of the class at C with these fields, told of the heap behind it -/
def RetE (C : Addr) (fs : List (Str × V)) (H : Hp) (E : XK) : Prop := ∀ d H2, Ex H H2 → H d = none → H2 d = some (.xd fs) → E (.ref C) (some d) H2
def RetE0 (C : Addr) (H : Hp) (E : XK) : Prop := ∀ H2, Ex H H2 → E (.ref C) none H2
/-- an error class with fields -/
structure ErrC (P : Program) (w : World) (K : PySem.W.Frag) (mg : Str → Option Value) (base : Heap) (x : Str) (C : Addr) (n : Nat) (ps : List Str) (fs : List V → List (Str × V)) : Prop where
  o : OexC K C
  g : mg x = some (.ref C)
  xf : XfC K C
  ec : ExcC K C
  init : ∃ fI fd, PySem.W.findIn K (.ref C) "__init__" = some (some (.ref fI)) ∧ PySem.W.typeIn K (.ref fI) = some (.type "function") ∧ FnOk P w K mg base CX0 1 fI fd ps (spErr C n fs) ∧ L2.Binds K fd ps []
section
variable {X : Cx} {C : Addr} {n : Nat} {ps : List Str} {fs : List V → List (Str × V)} {x : Str} {p pos pos2 : Pos} {e : Expr} {es : List Expr} {ta : TA} {W : WX}
def tRaiseE (C : Addr) (n : Nat) (fs : List V → List (Str × V)) (W : WX) (ta : TA) : TS := fun _ σ H => tMkO C (spErr C n fs) [] ta σ H fun cls d H' => W cls d σ H'
theorem ps_raiseE (hc : X.calm = true) (G : ErrC X.prog X.w X.K X.mg X.base x C n ps fs) (hr : Room 2 X.A) (tk : Takes X W) (ha : PA X (e :: es) ta) (hg : Gl X x) (hdb : (x == ("__debug__" : Str)) = false := by decide) (he : starEach (e :: es) X.env = (false, eval e X.env) :: starEach es X.env := by rfl) (hpl : (backTo pos (starEach es X.env)).any (·.1) = false := by rfl) :
    PS X (.Raise (some (.Call (.Name x p) (e :: es) [] pos)) none pos2) (tRaiseE C n fs W ta) := by
  obtain ⟨fI, fd, iC, tI, F1, hb⟩ := G.init
  exact ps_raise hc tk (pmk_oex (dvs := []) (ds := []) G.o iC tI F1 hr hb .nil pass0 hg G.g ha hdb he hpl)
theorem s_raiseE {σ : L2.St} {H : Hp} {D : Ends} {vs : List V} (h : EvA ta σ H vs) (hl : vs.length = n) (hn : n ≤ 1000) (k : ∀ H1, Ex H H1 → ∀ d, H1 d = none → W (.ref C) (some d) σ (L2.upd H1 d (.xd (fs vs)))) : tRaiseE C n fs W ta D σ H :=
  h H (Ex.refl H) _ fun H1 e1 => ⟨by omega, fun a ha => ⟨a, vs, by rw [List.append_nil], hl, upd_same, fun dx H2 h1 h2 h3 h4 h5 => ⟨rfl, dx, fs vs, h3, h4, by
    rw [upd_ne h2] at h1
    exact h1, by
    have e : L2.upd (L2.del H2 a) dx (.xd (fs vs)) = L2.upd H1 dx (.xd (fs vs)) := by
      funext b
      by_cases c : b = dx
      · rw [c, upd_same, upd_same]
      · rw [upd_ne c, upd_ne c]
        by_cases c2 : b = a
        · rw [c2, L2.del_same, ha]
        · rw [L2.del_ne c2, h5 b c2 c, upd_ne c2]
    rw [e]
    rw [upd_ne h2] at h1
    exact k H1 e1 dx h1⟩⟩⟩
/-- .. out of a def -/
theorem s_raiseR {σ : L2.St} {H H0 : Hp} {D : Ends} {vs : List V} {E : XK} (h : EvA ta σ H vs) (hl : vs.length = n) (hn : n ≤ 1000) (e0 : Ex H0 H) (q : RetE C (fs vs) H0 E) : tRaiseE C n fs (fun cls d _ H => E cls d H) ta D σ H :=
  s_raiseE h hl hn fun H1 e1 d hd => q d _ ((e0.trans e1).trans (Ex.new hd)) (fresh_back (e0.trans e1) hd) upd_same
end
/-- an error class without fields -/
structure ErrO (K : PySem.W.Frag) (mg : Str → Option Value) (x : Str) (C : Addr) : Prop where
  g : mg x = some (.ref C)
  q : PySem.W.excIn K C [.type "ValueError", .type "Exception", .type "BaseException", .type "object"] "ValueError.__new__" = true
  kC : PySem.W.keepIn K (.ref C) = true
  tyC : PySem.W.typeIn K (.ref C) = some (.type "type")
  ec : ExcC K C
def tRaise0 (C : Addr) (W : WX) : TS := fun _ σ H => W (.ref C) none σ H
theorem ps_raise0 {X : Cx} {C : Addr} {x : Str} {p pos pos2 : Pos} {W : WX} (hc : X.calm = true) (G : ErrO X.K X.mg x C) (tk : Takes X W) (hg : Gl X x) (hdb : (x == ("__debug__" : Str)) = false := by decide) :
    PS X (.Raise (some (.Call (.Name x p) [] [] pos)) none pos2) (tRaise0 C W) := ps_raise hc tk (pmk_exc0 PySem.F.excBase_ValueError G.q hg G.g G.kC (raises_own G.ec.hs G.tyC) hdb)
/-- a def that is handed the caught error -/
theorem okP {P : Program} {w : World} {K : PySem.W.Frag} {mg : Str → Option Value} {base : Heap} {x qual : Str} {st : Stmt} {f : Addr} {fd : FuncData} {N ps : List Str} {k : Nat} {sp : Addr → Value → Option Addr → Sp} (F : Fun K x qual st f fd) (S : FnScope N ps (defScope st)) (len : ∀ a cls d vs H Q E, sp a cls d vs H Q E → vs.length = ps.length)
    (hbody : ∀ (cdv : Value) (A : Around) (outer : List Env) (s : Shared) (H : Hp) (vs : List V) (Q : VK) (E : XK) (p : Addr × Obj) (cls : Value) (d : Option Addr), Zc cls d p.2 → (∃ fv, p.2.data = .fields fv) → L2H.RoomH k (A.deeper (envOfC qual (defScope st) s.heap.objs.size f cdv)) → sp p.1 cls d vs H Q E →
      ∃ t, PSs (L2H.cxH CX0 P w K mg base N qual (defScope st) f cdv A outer s H E p) (defBody st) t ∧ t { nx := fun _ H' => Q .non H', rt := Q } (L2.start N vs) H) : FnP P w K mg base (k + 1) f fd ps sp := by
  obtain ⟨oc, od, kV, doc, pm, an, cdv, ct, osl, rfl, lk, hcd⟩ := F.ex
  exact fn_ofP lk hcd S len fun A outer s H vs Q E p cls d hz hf hr hsp => hbody cdv A outer s H vs Q E p cls d hz hf hr hsp
theorem kitAny_none {K : PySem.W.Frag} {t : Value} : ∀ us : List Value, (∀ u ∈ us, PySem.W.kitOne K t u = some false) → PySem.W.kitAny K t us = some false
  | [], _ => rfl
  | u :: us, h => kitAny_cons (h u (List.mem_cons_self ..)) (fun _ => kitAny_none us fun v hv => h v (List.mem_cons_of_mem _ hv)) (fun z => nomatch z)
end Ver
namespace Ver
open PySem PySem.Spec PyProof.Rows L2 Evl
/-- what == of own objects asks of their class -/
structure EqC (K : PySem.W.Frag) (C : Addr) : Prop where
  hc : PySem.W.findIn K (.ref C) "__class__" = some (some (.builtin "object.__class__"))
  hn : PySem.W.specialIn K (.builtin "object.__class__") "__get__" = some (some (.builtin "getset_descriptor.__get__"))
  ht : PySem.W.takesIn K (.builtin "object.__class__") = some true
  mo : PySem.W.mroIn K C (.type "object") = some true
  kk : PySem.W.kitOne K (.ref C) (.ref C) = some true
  ks : PySem.W.kitOne K (.type "str") (.ref C) = some false
theorem notFirst_str {K : PySem.W.Frag} {C : Addr} : PySem.W.notFirst K C (.type "str") = true := by
  have e : PySem.W.subIn K (.type "str") (.ref C) = some false := by
    show (fastBuiltinMro "str").map (fun l => l.contains (.ref C)) = some false
    rfl
  show ((.type "str" : Value) == .ref C || PySem.W.subIn K (.type "str") (.ref C) == some false) = true
  rw [e]
  exact Bool.or_true _
theorem notFirst_own {K : PySem.W.Frag} {C : Addr} : PySem.W.notFirst K C (.ref C) = true := by
  show ((.ref C : Value) == .ref C || _) = true
  rw [beq_self_eq_true]
  rfl
/-- x == y, x an object of the class at C with an own __eq__ -/
def rOwn (C : Addr) (sp : Sp) (E : XK) : R2 := fun x y H Q => ∃ a dx fs, x = .ref a ∧ H a = some (.ins C dx fs) ∧ ((∃ b dy gs, y = .ref b ∧ H b = some (.ins C dy gs)) ∨ ∃ s, y = .str s) ∧ sp [x, y] H (fun v H' => (∃ b, v = .bl b) ∧ Q v H') E
section
variable {X : Cx} {CX : CXT} {k : Nat} {f C : Addr} {fd : FuncData} {ps : List Str} {sp : Sp} {E : XK}
theorem op_own (M : Meth X.K C "__eq__" f) (F : FnOk X.prog X.w X.K X.mg X.base CX k f fd ps sp) (hr : Room k X.A) (hb : L2.Binds X.K fd ps []) (hx : Passes CX X E) : OpR X (compareOp .Eq) (rOwn C sp E) := by
  intro pins s σ H x y v u Q I rx ry h
  obtain ⟨a, dx, fs, rfl, ha, hy, hq⟩ := h
  obtain rfl : v = Value.ref a := rx
  obtain ⟨mA, J, _⟩ := ins_get I.hok ha
  obtain ⟨od, J, _⟩ := J.look
  obtain ⟨m, hF⟩ := I.fr
  show wpAny (model X.prog X.w) X.A (richCompare .Eq (.ref a) u) (EP X pins σ Q) X.xe s
  have go : wpAny (model X.prog X.w) X.A (call (.ref f) [.ref a, u]) (PySem.W.CmpBack (EP X pins σ Q)) X.xe s :=
    wpAny_mono (run_fn (us := [.ref a, u]) (vs := [.ref a, y]) (dvs := []) (ds := []) F hr hb .nil hx I (.cons rfl (.cons ry .nil)) hq) (fun r s' z => by
      obtain ⟨w, H', I', rw', ⟨b, hb'⟩, q⟩ := z
      subst hb'
      obtain rfl : r = Value.bool b := rw'
      exact ⟨.bl b, H', I', rfl, q⟩) fun _ _ z => z
  rcases hy with ⟨b, dy, gs, rfl, hb2⟩ | ⟨t, rfl⟩
  · obtain rfl : u = Value.ref b := ry
    obtain ⟨mB, J', _⟩ := ins_get I.hok hb2
    obtain ⟨od', J', _⟩ := J'.look
    exact PySem.W.cmp_K (op := .Eq) (tb := .ref C) hr.units0 hF I.ok.mod.kin J J'.type notFirst_own M.at_ M.fn go
  · obtain ⟨tk, rfl⟩ : ∃ tk, u = Value.str t tk := ry
    exact PySem.W.cmp_K (op := .Eq) (tb := .type "str") hr.units0 hF I.ok.mod.kin J (PySem.W.looks_typeIn I.kIn rfl) notFirst_str M.at_ M.fn go
/-! ### o.m(k = v, ..) -/
def tMethN (C : Addr) (m : Str) (n : Nat) (sp : Sp) (gV : List V → List V → List V) (E : XK) (ta : TE) (tk : TA) : TE := fun σ H Q => ta σ H fun x H1 => ∃ a dx fs, x = .ref a ∧ H1 a = some (.ins C dx fs) ∧ fs.lookup m = none ∧ tk σ H1 fun zs H2 => zs.length = n ∧ sp (gV [.ref a] zs) H2 Q E
theorem pe_methN {m : Str} {o : Expr} {apos pos : Pos} {kws : List Keyword} {ks : List Str} {ta : TE} {tk : TA} {g : List Value → List Value → List Value} {gV : List V → List V → List V} {pl : Sem Bool} (he : PE X o ta) (c : Cls X.K C) (hm : Meth X.K C m f) (F : FnOk X.prog X.w X.K X.mg X.base CX k f fd ps sp) (hr : Room k X.A)
    (hb : KBn X.K fd ps 1 ks g gV) (hx : Passes CX X E) (hkw : PK X kws tk) (hall : (backToKw pos (keywordEach kws X.env)).all (·.1.isSome) = true := by rfl) (hks : (backToKw pos (keywordEach kws X.env)).filterMap (·.1) = ks := by rfl)
    (hpl : ((backTo pos (starEach [] X.env)).any (·.1) || (backToKw pos (keywordEach kws X.env)).any (·.1.isNone)) = false := by rfl)
    (ht : eval (.Call (.Attribute o m apos) [] kws pos) X.env = (do
      let ov ← eval o X.env
      standAt apos.atName
      let (f, first) ← holding [ov] (getMethod ov m pl)
      callWith pos f first (backTo pos (starEach [] X.env)) (backToKw pos (keywordEach kws X.env))) := by rfl) :
    PE X (.Call (.Attribute o m apos) [] kws pos) (tMethN C m ks.length sp gV E ta tk) := by
  refine ⟨fun pins s σ H Q I h => ?_⟩
  refine PySem.W.methodCall_KW (pl := pl) (thn (he.run pins s σ H _ I h) fun u s1 ⟨x, H1, I1, rx, a, dx, fs, ex, ea, l, q⟩ => ?_) ht
  subst ex
  obtain rfl : u = Value.ref a := rx
  refine getmeth_ok I1 ea c hm l ?_
  refine PySem.W.callWith_KW0 (h₀ := X.base) I1.ok.mod.kin hm.kp hall ?_ hpl
  refine thn (hkw.run pos pins s1 σ H1 _ I1 q) fun ws s2 ⟨zs, H2, I2, rz, l2, q2⟩ => ⟨I2.kIn, ?_⟩
  rw [hks]
  exact run_fnN (us := [.ref a]) (vs := [.ref a]) F hr hb hx I2 (.cons rfl .nil) rz rfl l2 q2
end
/-! ### the rules of the sections -/
section
variable {K : PySem.W.Frag} {σ : L2.St} {H : Hp} {C : Addr} {ta tb : TE}
theorem ev_own {sp : Sp} {E : XK} {a dx : Addr} {fs : List (Str × V)} {y : V} {b : Bool} (ha : Ev ta σ H (.ref a)) (hb : Ev tb σ H y) (hi : H a = some (.ins C dx fs)) (hy : (∃ c dy gs, y = .ref c ∧ H c = some (.ins C dy gs)) ∨ ∃ s, y = .str s)
    (hs : ∀ H1, Ex H H1 → ∀ Q : VK, (∀ H2, Ex H1 H2 → Q (.bl b) H2) → sp [.ref a, y] H1 Q E) : Ev (tOp (rOwn C sp E) ta tb) σ H (.bl b) := fun H1 e Q q => ha H1 e _ fun H2 e2 => hb H2 (e.trans e2) _ fun H3 e3 =>
  ⟨a, dx, fs, rfl, ((e.trans e2).trans e3) _ _ hi, hy.imp (fun ⟨c, dy, gs, h1, h2⟩ => ⟨c, dy, gs, h1, ((e.trans e2).trans e3) _ _ h2⟩) (fun z => z), hs H3 ((e.trans e2).trans e3) _ fun H4 e4 => ⟨⟨b, rfl⟩, q H4 ((e2.trans e3).trans e4)⟩⟩
theorem rc_isiC {a dx : Addr} {fs : List (Str × V)} (G : EqC K C) (cl : Cls K C) (h : H a = some (.ins C dx fs)) : RC (rIsi K) [.ref a, .ref C] H (.bl true) := fun H1 e _ q =>
  ⟨.ref a, .ref C, _, _, true, rfl, .own C, .base (.ins (e _ _ h) cl G.hc G.hn G.ht G.mo), G.kk, q H1 (Ex.refl H1)⟩
theorem rc_isiCs {s : Str} (G : EqC K C) : RC (rIsi K) [.str s, .ref C] H (.bl false) := fun H1 _ _ q =>
  ⟨.str s, .ref C, _, _, false, rfl, .own C, .base (.str s), G.ks, q H1 (Ex.refl H1)⟩
/-- a method's call by name of its one parameter -/
theorem ev_methN {m : Str} {sp : Sp} {E : XK} {a dx : Addr} {fs : List (Str × V)} {gV : List V → List V → List V} {t : TA} {vs : List V} {v : V} {n : Nat} (ha : Ev ta σ H (.ref a)) (hi : H a = some (.ins C dx fs)) (hl : fs.lookup m = none) (ht : EvA t σ H vs) (hn : vs.length = n)
    (h : ∀ H1, Ex H H1 → ∀ Q : VK, (∀ H2, Ex H1 H2 → Q v H2) → sp (gV [.ref a] vs) H1 Q E) : Ev (tMethN C m n sp gV E ta t) σ H v := fun H1 e Q q => ha H1 e _ fun H2 e2 => ⟨a, dx, fs, rfl, (e.trans e2) _ _ hi, hl, ht H2 (e.trans e2) _ fun H3 e3 => ⟨hn, h H3 ((e.trans e2).trans e3) Q fun H4 e4 => q H4 ((e2.trans e3).trans e4)⟩⟩
end
/-! ### list(text) -/
def rListS : List V → Hp → VK → Prop := fun xs H Q => ∃ l : List Nat, xs = [tx l] ∧ l.length ≤ 1000 ∧ ∀ p, H p = none → Q (.ref p) (L2.upd H p (.lst (l.map fun c => tx [c])))
theorem vals_signs {l : List Nat} {its : List Value} (hl : its.length = l.length) (h : ∀ (j : Nat) (v : Value), its[j]? = some v → ∃ (c : Nat) (u : Tok), l[j]? = some c ∧ v = Value.str ⟨#[c]⟩ u) : Vals (l.map fun c => tx [c]) its := by
  induction l generalizing its with
  | nil =>
    match its, hl with
    | [], _ => exact .nil
  | cons c r ih =>
    match its, hl with
    | v :: ws, hl =>
      obtain ⟨d, u, h1, rfl⟩ := h 0 v rfl
      obtain rfl : c = d := Option.some.inj h1
      exact .cons ⟨u, rfl⟩ (ih (by simpa using hl) fun j v hv => h (j + 1) v hv)
theorem call_listS {X : Cx} (hc : X.calm = true) : CallR X (.type "list") rListS := by
  intro pins s σ H xs us Q I r h
  obtain ⟨l, rfl, hz, q⟩ := h
  obtain ⟨u, rfl, t, rfl⟩ := vals1 r
  have hsz : (SX.S l).cps.size = l.length := by
    show l.toArray.size = _
    simp
  refine call_list_str (I.ok.hd hc) (SX.S l) t (fun h' tk acc' c' hk hS' hacc => ?_) (by rw [hsz, sizeLine_eq]; omega)
  have hv : Vals (l.map fun c => tx [c]) acc'.toList := vals_signs (by rw [Array.length_toList, hacc.1, hsz]) fun j v hv => by
    obtain ⟨c, u, h1, h2⟩ := hacc.2 j v (by simpa using hv)
    refine ⟨c, u, ?_, h2⟩
    have h3 : l.toArray[j]? = some c := h1
    simpa using h3
  exact ⟨.ref s.heap.objs.size, _, I.laid (t' := tk) hk (Nat.le_refl _) (show ObjOk X.prog X.w _ h' _ (.lst (l.map fun c => tx [c])) from ⟨by rw [List.length_map, sizeLine_eq]; omega, acc'.toList, c', hv, by simpa using hS'⟩), rfl, q _ (I.hok.fresh (Nat.le_refl _))⟩
theorem el_listS {ta : TE} {σ : L2.St} {H : Hp} {l : List Nat} (h : Ev ta σ H (tx l)) (hz : l.length ≤ 1000) : EvL (tCB rListS (tCons ta tNil)) σ H (l.map fun c => tx [c]) := fun H1 e Q q => h H1 e _ fun H2 e2 => ⟨l, rfl, hz, fun p hp => q p _ (fresh_back e2 hp) (e2.trans (Ex.new hp)) upd_same⟩
/-! ### text[::-1], its length exactly -/
def tRevE (te : TE) : TE := fun σ H Q => te σ H fun x H1 => ∃ z : Str, x = .str z ∧ z.length ≤ sizeLine ∧ ∀ y : Str, y.cps.toList = ((List.range z.length).map fun k => z.cps.getD (z.length - 1 - k) 0) → Q (.str y) H1
theorem pe_revE {X : Cx} {e : Expr} {te : TE} {k : Nat} {p1 p2 p3 pos : Pos} (he : PE X e te) : PE X (.Subscript e (.Slice none none (some (.UnaryOp .USub (.Constant (.int 1) k p1) p2)) p3) pos) (tRevE te) := by
  refine ⟨fun pins s σ H Q I h => ?_⟩
  refine Subscript_ (thn (he.run pins s σ H _ I h) fun v s1 ⟨x, H1, I1, r1, q1⟩ => ?_)
  obtain ⟨z, ex, hz, q⟩ := q1
  subst ex
  obtain ⟨t, rfl⟩ := r1
  have hst : PO X (some (.UnaryOp .USub (.Constant (.int 1) k p1) p2)) (tPart (tUn (rU fun i => .int (-i)) (tC (.int 1)))) := po_some (pe_un un_neg pe_int)
  refine wpAny_Slice (thn (po_none.run pins s1 σ H1 (fun o H2 => o = none ∧ H2 = H1) I1 ⟨rfl, rfl⟩) fun vl s2 ⟨l, H2, I2, pl, el, e2⟩ => ?_)
  subst el e2
  refine thn (po_none.run pins s2 σ H2 (fun o H3 => o = none ∧ H3 = H2) I2 ⟨rfl, rfl⟩) fun vu s3 ⟨u, H3, I3, pu, eu, e3⟩ => ?_
  subst eu e3
  refine thn (hst.run pins s3 σ H3 (fun o H4 => o = some (-1) ∧ H4 = H3) I3 ⟨1, rfl, -1, rfl, rfl, rfl⟩) fun vs s4 ⟨o, H4, I4, ps, eo, e4⟩ => ?_
  subst eo e4
  have I5 : Inv X pins σ H4 { s4 with heap := s4.heap.push { cls := .type "slice", data := .fields #[vl, vu, vs] } } := I4.kept (t' := s4.toks) fun b ob q => Heap.get?_push_of_some _ q
  obtain ⟨l, rfl, hl⟩ := IsPart.raw pl
  obtain ⟨u, rfl, hu⟩ := IsPart.raw pu
  obtain ⟨w, rfl, hw⟩ := IsPart.raw ps
  cases l with
  | some l => cases hl
  | none =>
  cases u with
  | some u => cases hu
  | none =>
  cases w with
  | none => cases hw
  | some w =>
  obtain ⟨w1, w2⟩ := w
  have ew : w1 = -1 := by
    have : some w1 = some (-1 : Int) := hw
    exact Option.some.inj this
  subst ew
  refine tail_any (ops := [.ref s4.heap.objs.size, .str z t]) (typeIs_str _ _ _) F.slot_str_getitem.lookup ?_ (by with_unfolding_all rfl)
  refine wpAny_getItem_str_slice (l := none) (u := none) (st := some (-1, w2)) ⟨_, Heap.get?_push_size _ rfl, rfl, rfl⟩ rfl ?_
  have hc : ¬ ((((some ((-1 : Int), w2)).map (·.1)).getD 1 == 1 && (slicePicked z none none (some (-1, w2))).length == z.length) = true) := by
    have : (((some ((-1 : Int), w2)).map (·.1)).getD 1 == 1) = false := rfl
    rw [this]
    simp
  have hl := step_rev_list z w2
  have hn := step_rev_len z w2
  unfold Txt.sliceBy at hl hn
  rw [if_neg hc] at hl hn
  unfold sliceMade
  rw [if_neg hc]
  refine ⟨?_, .str _, H4, I5.tok _, ⟨_, rfl⟩, q _ hl⟩
  show (⟨((slicePicked z none none (some (-1, w2))).filterMap (z.cps[·]?)).toArray⟩ : Str).length ≤ sizeLine
  rw [hn]
  exact hz
theorem rev_list (l : List Nat) : ((List.range l.length).map fun k => l.getD (l.length - 1 - k) 0) = l.reverse := by
  refine List.ext_getElem? fun i => ?_
  by_cases c : i < l.length
  · rw [List.getElem?_map, List.getElem?_range c, List.getElem?_reverse c]
    show some (l.getD (l.length - 1 - i) 0) = _
    rw [List.getD_eq_getElem?_getD, List.getElem?_eq_getElem (show l.length - 1 - i < l.length by omega)]
    rfl
  · rw [List.getElem?_eq_none (by rw [List.length_map, List.length_range]; omega), List.getElem?_eq_none (by rw [List.length_reverse]; omega)]
theorem ev_revE {te : TE} {σ : L2.St} {H : Hp} {l : List Nat} (h : Ev te σ H (tx l)) (hz : l.length ≤ 100000) : Ev (tRevE te) σ H (tx l.reverse) := fun H1 e Q q => h H1 e _ fun H2 e2 => ⟨SX.S l, rfl, by rw [SX.S_len, sizeLine_eq]; omega, fun y hy => by
  have e3 : y.cps.toList = l.reverse := by
    rw [hy, ← rev_list l, SX.S_len]
    refine List.map_congr_left fun k _ => ?_
    show l.toArray.getD _ 0 = _
    simp [Array.getD_eq_getD_getElem?, List.getD_eq_getElem?_getD]
  have e4 : (.str y : V) = tx l.reverse := by
    rw [← e3]
  rw [e4]
  exact q H2 e2⟩
end Ver
namespace Ver
open PySem PySem.Spec PyProof.Rows L2 Evl
section
variable {K : PySem.W.Frag} {σ : L2.St} {H : Hp} {ta tb tc te tl : TE} {tz : TS} {D : Ends}
/-- a list made over a text -/
theorem el_lcS {x : List Nat} {j : Nat} {vs : List Nat} (v : Nat → V) (h : Ev tl σ H (tx x)) (hz : x.length ≤ 40000) (hw : ∀ a, wipe ((wipe σ vs).set j (some a)) vs = wipe σ vs)
    (he : ∀ (i c : Nat) H1, Ex H H1 → x[i]? = some c → Ev te ((wipe σ vs).set j (some (tx [c]))) H1 (v c)) :
    EvL (tLc (iStr tl) (gName j) tYes te vs) σ H (x.map v) := fun H0 e Q q => h H0 e _ fun H1 e1 => ⟨SX.S x, rfl, fun Dl hD => by
  have hn : (SX.S x).cps.size = x.length := by
    show x.toArray.size = _
    simp
  let g : Nat → V := fun i => v (x.getD i 0)
  refine lc_it (walk_str (z := SX.S x)) (Cw H1 (fun _ => true) g Dl) ⟨hD, Ex.new hD, upd_same⟩ (fun _ _ _ _ => trivial) (fun i z H' H2 hi p yp => ?_) (fun H' p => ?_)
  · obtain ⟨rfl, c, hc, rfl⟩ := yp
    have hc2 : x[i]? = some c := by
      have : (SX.S x).cps.toList[i]? = some c := by rw [Array.getElem?_toList]; exact hc
      exact this
    have hlt := (List.getElem?_eq_some_iff.mp hc2).1
    have eg : g i = v c := by
      show v (x.getD i 0) = v c
      rw [List.getD_eq_getElem?_getD, hc2]
      rfl
    refine ⟨hw _, cw_turn p (by omega) et_yes fun _ => ?_⟩
    rw [eg]
    exact he i c H1 (e.trans e1) hc2
  · rw [hn] at p
    have p3 := p.2.2
    rw [given_all] at p3
    have ee : (List.range x.length).map g = x.map v := by
      refine List.ext_getElem (by simp) fun i h1 h2 => ?_
      have hi : i < x.length := by simpa using h2
      rw [List.getElem_map, List.getElem_map, List.getElem_range]
      show v (x.getD i 0) = _
      rw [List.getD_eq_getElem?_getD, List.getElem?_eq_getElem hi]
      rfl
    rw [ee] at p3
    exact q Dl H' (fresh_back e1 p.1) (e1.trans p.2.1) p3⟩
/-- a call whose second argument of three is a new list -/
theorem ev_call3L {sp : Sp} {E : XK} {x y z : V} {xs dvs : List V} (h : Ev ta σ H x) (hl : EvL tl σ H xs) (h3 : ∀ H1, Ex H H1 → Ev tb σ H1 y) (hs : ∀ p H1, Ex H H1 → H1 p = some (.lst xs) → SpV sp ([x, .ref p, y] ++ dvs) H1 z) : Ev (tCall sp dvs E (tCons ta (tCons tl (tCons tb tNil)))) σ H z := fun H1 e Q q =>
  h H1 e _ fun H2 e2 => hl H2 (e.trans e2) _ fun p H3 hp e3 g3 => h3 H3 ((e.trans e2).trans e3) H3 (Ex.refl H3) _ fun H4 e4 => hs p H4 (((e.trans e2).trans e3).trans e4) (e4 _ _ g3) H4 (Ex.refl H4) Q (fun H5 e5 => q H5 (((e2.trans e3).trans e4).trans e5)) E
/-- len of a new text, parts of texts -/
theorem over_cut {al l : List Nat} {lo hi : Option Int} (h : ∀ c ∈ l, c ∈ al) : ∀ c ∈ cutL l lo hi, c ∈ al := fun c hc => h c (cutL_sub c hc)
theorem over_app {al a b : List Nat} (h1 : ∀ c ∈ a, c ∈ al) (h2 : ∀ c ∈ b, c ∈ al) : ∀ c ∈ a ++ b, c ∈ al := fun c hc => (List.mem_append.mp hc).elim (h1 c) (h2 c)
theorem over_rep {al l : List Nat} {n : Nat} (h : ∀ c ∈ l, c ∈ al) : ∀ c ∈ (List.replicate n l).flatten, c ∈ al := fun c hc => by
  obtain ⟨m, hm, hc2⟩ := List.mem_flatten.mp hc
  rw [List.eq_of_mem_replicate hm] at hc2
  exact h c hc2
theorem rep_len {l : List Nat} {n : Nat} : (List.replicate n l).flatten.length = n * l.length := by
  induction n with
  | zero => simp
  | succ n ih => rw [List.replicate_succ, List.flatten_cons, List.length_append, ih, Nat.add_mul, Nat.one_mul, Nat.add_comm]
/-- a text over al, no longer than n -/
structure Word (al : List Nat) (n : Nat) (v : List Nat) : Prop where
  over : ∀ c ∈ v, c ∈ al
  len : v.length ≤ n
theorem Word.cut {al v : List Nat} {n m : Nat} (h : ∀ c ∈ v, c ∈ al) (hm : m ≤ n) : Word al n (cutL v none (some (m : Int))) := ⟨over_cut h, by rw [cutL_to, List.length_take]; omega⟩
theorem nodup_sub : ∀ (a b : List Nat), a.Nodup → (∀ x ∈ a, x ∈ b) → a.length ≤ b.length
  | [], b, _, _ => Nat.zero_le _
  | x :: r, b, nd, h => by
    have hx := h x (List.mem_cons_self ..)
    have ih := nodup_sub r (b.erase x) (List.nodup_cons.mp nd).2 fun y hy => (List.mem_erase_of_ne (fun (e : y = x) => (List.nodup_cons.mp nd).1 (e ▸ hy))).mpr (h y (List.mem_cons_of_mem _ hy))
    have e := List.length_erase_of_mem hx
    have hp : 0 < b.length := List.length_pos_of_mem hx
    show r.length + 1 ≤ _
    omega
end
end Ver
namespace Ver
open PySem PySem.Spec PyProof.Rows L2 Evl
/-! ### pairs as data -/
def pd (r : Nat × Nat) : PyData := .tuple [.int (r.1 : Int), .str (SX.S [r.2])]
theorem pd_shaped (r : Nat × Nat) (h : r.2 < 1114112) : SeqAt.shaped (pd r) = true := by
  show (PyData.canLay0 _ && decide (PyData.depth _ ≤ 64)) = true
  have hs : PyData.strOk (SX.S [r.2]) = true := by
    unfold PyData.strOk
    simpa using h
  simp [pd, PyData.canLay0, PyData.canLayAll0, PyData.depth, PyData.depthAll, hs]
theorem pd_eqv (a b : Nat × Nat) : PyData.eqv (pd a) (pd b) = decide (a = b) := by
  obtain ⟨a1, a2⟩ := a
  obtain ⟨b1, b2⟩ := b
  show ((((a1 : Int) == (b1 : Int)) && ((SX.S [a2] == SX.S [b2]) && true)) = _)
  rw [Bool.and_true, SX.S_beq_eq, Bool.eq_iff_iff, Bool.and_eq_true, beq_iff_eq, decide_eq_true_eq, decide_eq_true_eq]
  constructor
  · rintro ⟨h1, h2⟩
    have := (List.cons.inj h2).1
    exact Prod.ext (by show a1 = b1; omega) this
  · intro h
    cases h
    exact ⟨rfl, rfl⟩
theorem pd_alike (a b : Nat × Nat) : PySem.W.alike (pd a) (pd b) = true := by
  simp [pd, PySem.W.alike, PySem.W.alikeAll]
theorem pd_lt (a b : Nat × Nat) : PySem.W.dataLt (pd a) (pd b) = rltb a b := by
  obtain ⟨a1, a2⟩ := a
  obtain ⟨b1, b2⟩ := b
  show PyProof.Rows.lexLt itemOrd (PySem.W.keyToksAll [.int (a1 : Int), .str (SX.S [a2])]) (PySem.W.keyToksAll [.int (b1 : Int), .str (SX.S [b2])]) = _
  unfold rltb
  by_cases h : a1 = b1
  · subst h
    rw [PySem.W.dataLt_all_yes (by simp [PySem.W.alike]) (by simp [PyData.eqv])]
    by_cases g : a2 = b2
    · subst g
      rw [PySem.W.dataLt_all_yes (by simp [PySem.W.alike]) (by show (SX.S [a2] == SX.S [a2]) = true; simp)]
      simp [PySem.W.keyToksAll, PyProof.Rows.lexLt, itemLt]
    · rw [PySem.W.dataLt_all_no (by simp [PySem.W.alike]) (by show (SX.S [a2] == SX.S [b2]) = false; rw [SX.S_beq_eq]; exact decide_eq_false fun q => g (List.cons.inj q).1), PySem.W.dataLt_str]
      refine decide_eq_decide.mpr ?_
      show ([a2] : List Nat) < [b2] ↔ _
      constructor
      · intro h
        cases h with
        | rel h => exact .inr ⟨rfl, h⟩
        | cons h => cases h
      · rintro (h | h)
        · exact absurd h (Nat.lt_irrefl _)
        · exact List.Lex.rel h.2
  · rw [PySem.W.dataLt_all_no (by simp [PySem.W.alike]) (by show ((a1 : Int) == (b1 : Int)) = false; simp; omega), PySem.W.dataLt_int]
    refine decide_eq_decide.mpr ?_
    show (a1 : Int) < (b1 : Int) ↔ (a1 < b1 ∨ a1 = b1 ∧ a2 < b2)
    omega
end Ver
namespace Ver
open PySem PySem.Spec PyProof.Rows L2 Evl
/-! ### == and != of like data -/
section
variable {K : PySem.W.Frag} {H : Hp}
theorem rv_isV {r : R2} {x y z z' : V} (h : RV r x y H z) (e : z = z') : RV r x y H z' := by
  rw [← e]
  exact h
theorem eqv_self {d : PyData} (h : SeqAt.shaped d = true) : PyData.eqv d d = true := SeqAt.eqv_refl _ (SeqAt.canLay_of_shaped h)
theorem rv_neSame {x y : V} {d : PyData} (h : SeqAt.shaped d = true) (h1 : ∀ H1, Ex H H1 → Dp K H1 x d) (h2 : ∀ H1, Ex H H1 → Dp K H1 y d) : RV (rNeD K) x y H (.bl false) := fun H1 e Q q =>
  ⟨d, d, h1 H1 e, h2 H1 e, h, h, by rw [eqv_self h]; exact q H1 (Ex.refl H1)⟩
theorem rv_eqSame {x y : V} {d : PyData} (h : SeqAt.shaped d = true) (h1 : ∀ H1, Ex H H1 → Dp K H1 x d) (h2 : ∀ H1, Ex H H1 → Dp K H1 y d) : RV (rEqD K) x y H (.bl true) := fun H1 e Q q =>
  ⟨d, d, h1 H1 e, h2 H1 e, h, h, by rw [eqv_self h]; exact q H1 (Ex.refl H1)⟩
theorem dp_txs : ∀ ss : List (List Nat), DpAll K H (ss.map tx) (ss.map fun s => PyData.str (SX.S s))
  | [] => .nil
  | s :: ss => .cons (.str _) (dp_txs ss)
theorem dp_row {r : Addr} {q : Nat × Nat} (h : H r = some (.tup [.int (q.1 : Int), tx [q.2]])) : Dp K H (.ref r) (pd q) := .tup (st_of h) (.cons (.int _) (.cons (.str _) .nil))
theorem dp_rows : ∀ (xs : List V) (rs : Rw), RowsAt H xs rs → DpAll K H xs (rs.map pd)
  | [], [], _ => .nil
  | [], _ :: _, h => by
    have := h.len
    cases this
  | _ :: _, [], h => by
    have := h.len
    cases this
  | x :: xs, q :: rs, h => by
    obtain ⟨r, e1, e2⟩ := h.row 0 q.1 q.2 rfl
    have : x = V.ref r := Option.some.inj e1
    subst this
    refine .cons (dp_row e2) (dp_rows xs rs ⟨by have := h.len; simpa using this, fun i p c e => ?_⟩)
    exact h.row (i + 1) p c e
theorem lay_all : ∀ ds : List PyData, (∀ d ∈ ds, PyData.canLay0 d = true) → PyData.canLayAll0 ds = true
  | [], _ => by simp [PyData.canLayAll0]
  | d :: ds, h => by
    rw [PyData.canLayAll0, h d (List.mem_cons_self ..), lay_all ds fun x hx => h x (List.mem_cons_of_mem _ hx)]
    rfl
theorem deep_all {n : Nat} : ∀ ds : List PyData, (∀ d ∈ ds, PyData.depth d ≤ n) → PyData.depthAll ds ≤ n
  | [], _ => by simp [PyData.depthAll]
  | d :: ds, h => by
    have h1 := h d (List.mem_cons_self ..)
    have h2 := deep_all ds fun x hx => h x (List.mem_cons_of_mem _ hx)
    rw [PyData.depthAll]
    omega
theorem shaped_tup {ds : List PyData} {n : Nat} (h : ∀ d ∈ ds, PyData.canLay0 d = true ∧ PyData.depth d ≤ n) (hn : n ≤ 60) : SeqAt.shaped (.tuple ds) = true := by
  show (PyData.canLay0 _ && decide (PyData.depth _ ≤ 64)) = true
  have h1 := lay_all ds fun d hd => (h d hd).1
  have h2 := deep_all (n := n) ds fun d hd => (h d hd).2
  rw [Bool.and_eq_true, decide_eq_true_eq]
  exact ⟨by rw [PyData.canLay0]; exact h1, by rw [PyData.depth]; omega⟩
theorem shaped_lst {ds : List PyData} {n : Nat} (h : ∀ d ∈ ds, PyData.canLay0 d = true ∧ PyData.depth d ≤ n) (hn : n ≤ 60) : SeqAt.shaped (.list ds) = true := by
  show (PyData.canLay0 _ && decide (PyData.depth _ ≤ 64)) = true
  have h1 := lay_all ds fun d hd => (h d hd).1
  have h2 := deep_all (n := n) ds fun d hd => (h d hd).2
  rw [Bool.and_eq_true, decide_eq_true_eq]
  exact ⟨by rw [PyData.canLay0]; exact h1, by rw [PyData.depth]; omega⟩
theorem lay_tx {s : List Nat} (h : ∀ c ∈ s, c < 1114112) : PyData.canLay0 (.str (SX.S s)) = true ∧ PyData.depth (.str (SX.S s)) ≤ 0 := by
  have hs : PyData.strOk (SX.S s) = true := by
    unfold PyData.strOk
    show s.toArray.all _ = true
    simpa using h
  exact ⟨by simp [PyData.canLay0, hs], by simp [PyData.depth]⟩
theorem lay_pd {r : Nat × Nat} (h : r.2 < 1114112) : PyData.canLay0 (pd r) = true ∧ PyData.depth (pd r) ≤ 1 := by
  have hs := (lay_tx (s := [r.2]) fun c hc => by rw [List.mem_singleton.mp hc]; exact h).1
  rw [PyData.canLay0] at hs
  constructor
  · simp [pd, PyData.canLay0, PyData.canLayAll0, hs]
  · simp [pd, PyData.depth, PyData.depthAll]
theorem Alf.uni {al : List Nat} (A : Alf al) {c : Nat} (h : c ∈ al) : c < 1114112 := by
  have := A.let' c h
  omega
/-- two tuples of the same rows -/
theorem rv_neRows {p q : Addr} {xs ys : List V} {rs : Rw} {al : List Nat} (A : Alf al) (hr : ∀ r ∈ rs, r.2 ∈ al) (h1 : H p = some (.tup xs)) (h2 : RowsAt H xs rs) (h3 : H q = some (.tup ys)) (h4 : RowsAt H ys rs) : RV (rNeD K) (.ref p) (.ref q) H (.bl false) :=
  rv_neSame (d := .tuple (rs.map pd)) (shaped_tup (n := 1) (fun d hd => by
    obtain ⟨r, hr', rfl⟩ := List.mem_map.mp hd
    exact lay_pd (A.uni (hr r hr'))) (by decide)) (fun H1 e => .tup (st_of (e _ _ h1)) (dp_rows _ _ (h2.mono e))) fun H1 e => .tup (st_of (e _ _ h3)) (dp_rows _ _ (h4.mono e))
/-- two tuples of the same texts -/
theorem rv_neTxs {p q : Addr} {ss : List (List Nat)} {al : List Nat} (A : Alf al) (hr : ∀ s ∈ ss, ∀ c ∈ s, c ∈ al) (h1 : H p = some (.tup (ss.map tx))) (h2 : H q = some (.tup (ss.map tx))) : RV (rNeD K) (.ref p) (.ref q) H (.bl false) :=
  rv_neSame (d := .tuple (ss.map fun s => PyData.str (SX.S s))) (shaped_tup (n := 0) (fun d hd => by
    obtain ⟨s, hs, rfl⟩ := List.mem_map.mp hd
    exact lay_tx fun c hc => A.uni (hr s hs c hc)) (by decide)) (fun H1 e => .tup (st_of (e _ _ h1)) (dp_txs _)) fun H1 e => .tup (st_of (e _ _ h2)) (dp_txs _)
/-- two lists of the same ints -/
theorem rv_eqInts {p q : Addr} {ns : List Int} (h1 : SqL K H p (ns.map V.int)) (h2 : SqL K H q (ns.map V.int)) : RV (rEqD K) (.ref p) (.ref q) H (.bl true) :=
  rv_eqSame (d := .list (ns.map PyData.int)) (shaped_list_of_ints ns) (fun H1 e => .lst (ex_l e h1) (dp_ints ns)) fun H1 e => .lst (ex_l e h2) (dp_ints ns)
end
end Ver
namespace Ver
open PySem PySem.Spec PyProof.Rows L2 Evl
/-! ### promises of defs that ask what is under way (repr): kept where no guard is under way -/
structure FnG (P : Program) (w : World) (K : PySem.W.Frag) (mg : Str → Option Value) (bs : Heap) (C : CXT) (k : Nat) (f : Addr)
    (fd : FuncData) (ps : List Str) (sp : Sp) : Prop where
  lens : ∀ vs H Q E, sp vs H Q E → vs.length = ps.length
  runs : ∀ (A : Around) (ou : List Env) (s : Shared) (H : Hp) (ar : Args) (us : List Value) (vs : List V) (Q : VK) (E : XK),
    A.guards = some [] → Room k A → Env0 P w K mg bs A ou s H → BindsTo s fd ar (ps.zip us) → Vals vs us → sp vs H Q E →
      codeAny (model P w) A (.call (.ref f) ar) (CR C ou P w H s Q E) s
section
variable {P : Program} {w : World} {K : PySem.W.Frag} {mg : Str → Option Value} {bs : Heap} {C : CXT} {k : Nat} {f : Addr} {fd : FuncData} {ps : List Str} {sp : Sp}
theorem FnG.of (F : FnOk P w K mg bs C k f fd ps sp) : FnG P w K mg bs C k f fd ps sp :=
  ⟨F.len, fun A ou s H ar us vs Q E _ => F.run A ou s H ar us vs Q E⟩
theorem FnG.more {j : Nat} (F : FnG P w K mg bs C j f fd ps sp) (h : j ≤ k) : FnG P w K mg bs C k f fd ps sp :=
  ⟨F.lens, fun A ou s H ar us vs Q E g r => F.runs A ou s H ar us vs Q E g (r.mono h)⟩
/-- a def by its body, no guard under way -/
theorem fng_of {nm ql : Str} {pa : Arguments} {bd : List Stmt} {sc : Scope} {dV kV dc pm cdv ct oc : Value} {an od : Option Addr} {sl : Array (Option Value)} {N : List Str}
    (at_ : K.lookup f = some ⟨oc, od, .func (PySem.W.fnOf nm ql pa bd sc dV kV dc pm an cdv ct), sl⟩) (co : PySem.W.codeIn K cdv ql = true) (S : FnScope N ps sc)
    (ln : ∀ vs H Q E, sp vs H Q E → vs.length = ps.length)
    (body : ∀ (A : Around) (ou : List Env) (s : Shared) (H : Hp) (vs : List V) (Q : VK) (E : XK), A.guards = some [] →
      Room k (A.deeper (envOfC ql sc s.heap.objs.size f cdv)) → sp vs H Q E →
      ∃ t, PSs (cxOf C P w K mg bs N ql sc f cdv A ou s H E) bd t ∧ t { nx := fun _ H' => Q .non H', rt := Q } (L2.start N vs) H) :
    FnG P w K mg bs C (k + 1) f (PySem.W.fnOf nm ql pa bd sc dV kV dc pm an cdv ct) ps sp := by
  refine ⟨ln, fun A ou s H ar us vs Q E g room env binds vals said => ?_⟩
  have inK : K.In s.heap := env.mod.kin.keeps fun b o e => (env.bs b o e).1
  have noLim : s.heap.NoLimit := env.mod.nolimit.keeps fun b o e => (env.bs b o e).1
  have places : ∀ y ∈ ps.zip us, sc.names.lookup y.1 = some .local ∨
      (sc.names.lookup y.1 = some .cell ∧ ((cellsFrom (s.heap.objs.size + 1) sc.names []).lookup y.1).isSome = true) := by
    rintro ⟨n, v⟩ hy
    rcases S.par n (List.of_mem_zip hy).1 with q | q
    · exact Or.inl q
    · exact Or.inr ⟨q, PySem.W.cellsFrom_some _ _ _ (.inl q)⟩
  refine codeAny_call_function room.depth (inK _ _ at_) rfl S.co S.gen rfl (PySem.W.codeRec_of inK co) (binds _ _ _ _ ?_)
  refine wpAny_newFunctionEnv_cells S.kind places ?_
  rintro en rfl s1 x
  refine ⟨noLim.keeps x.toInCall.keep, codeAny_func ?_⟩
  obtain ⟨t, ht, hq⟩ := body A ou s H vs Q E g (room.deeper _) said
  have inv := inv_start (CX := C) (E := E) S room.hd env (ln _ _ _ _ said) vals x
  refine wpAny_mono (ht.run [] s1 (L2.start N vs) H _ inv hq) ?_ (fun e s' hs => hs)
  intro fl s' hs
  cases fl with
  | brk =>
    obtain ⟨_, _, _, z⟩ := hs
    exact z.elim
  | cont =>
    obtain ⟨_, _, _, z⟩ := hs
    exact z.elim
  | next =>
    obtain ⟨σ', H', J, q⟩ := hs
    exact ⟨V.non, H', J.os, J.bare, J.base, J.hok, rfl, q⟩
  | ret u =>
    obtain ⟨y, σ9, H9, J, rv, z⟩ := hs
    exact ⟨y, H9, J.os, J.bare, J.base, J.hok, rv, z⟩
/-- as ok of the layer, no guard under way -/
theorem okG {x ql : Str} {st : Stmt} {N : List Str} (F : Fun K x ql st f fd) (S : FnScope N ps (defScope st)) (ln : ∀ vs H Q E, sp vs H Q E → vs.length = ps.length)
    (body : ∀ (cdv : Value) (A : Around) (ou : List Env) (s : Shared) (H : Hp) (vs : List V) (Q : VK) (E : XK), A.guards = some [] →
      Room k (A.deeper (envOfC ql (defScope st) s.heap.objs.size f cdv)) → sp vs H Q E →
      ∃ t, PSs (cxOf CX0 P w K mg bs N ql (defScope st) f cdv A ou s H E).nox (defBody st) t ∧ t { nx := fun _ H' => Q .non H', rt := Q } (L2.start N vs) H) :
    FnG P w K mg bs CX0 (k + 1) f fd ps sp := by
  obtain ⟨_, _, _, _, _, _, cdv, _, _, rfl, lk, hc⟩ := F.ex
  refine fng_of lk hc S ln fun A ou s H vs Q E g room said => ?_
  obtain ⟨t, ht, q⟩ := body cdv A ou s H vs Q E g room said
  exact ⟨t, ht.nox, q⟩
end
def HasG (P : Program) (w : World) (K : PySem.W.Frag) (mg : Str → Option Value) (bs : Heap) (x : Str) (st : Stmt) (ps : List Str) (k : Nat) (sp : Sp) : Prop :=
  ∃ f fd, Fun K x x st f fd ∧ FnG P w K mg bs CX0 k f fd ps sp ∧ Binds K fd ps [] ∧ mg x = some (.ref f) ∧ PySem.W.keepIn K (.ref f) = true
section
variable {X : Cx} {C : CXT} {k : Nat} {f : Addr} {fd : FuncData} {ps : List Str} {sp : Sp} {dvs : List V} {ds : List Value} {E : XK} {x : Str} {p pos : Pos} {e : Expr} {es : List Expr} {t : TA}
/-- a call of such a def, out of a body with no guard under way -/
theorem pe_callG (g : X.A.guards = some []) (F : FnG X.prog X.w X.K X.mg X.base C k f fd ps sp) (room : Room k X.A) (hg : Gl X x) (hm : X.mg x = some (.ref f)) (hk : PySem.W.keepIn X.K (.ref f) = true)
    (hb : Binds X.K fd ps ds) (hd : Vals dvs ds) (hx : Passes C X E) (ha : PA X (e :: es) t) (nd : (x == ("__debug__" : Str)) = false := by decide)
    (h1 : starEach (e :: es) X.env = (false, eval e X.env) :: starEach es X.env := by rfl) (h2 : (backTo pos (starEach es X.env)).any (·.1) = false := by rfl) :
    PE X (.Call (.Name x p) (e :: es) [] pos) (tCall sp dvs E t) := ⟨fun pins s σ H Q I h => by
  refine wpAny_Call_Name_kw (ld_glob I hg hm ?_ nd)
  refine PySem.W.callWith_K (h₀ := X.base) I.ok.mod.kin hk (thn (ha.run pos pins s σ H _ I h) ?_) h1 h2
  rintro us s1 ⟨vs, H1, I1, r, q⟩
  refine ⟨I1.kIn, ?_⟩
  have r2 : Vals (vs ++ dvs) (us ++ ds) := r.append hd
  have l2 : (us ++ ds).length = ps.length := r2.length.symm.trans (F.lens _ _ _ _ q)
  refine wpAny_call (codeAny_mono (F.runs X.A X.stack s1 H1 ⟨us, []⟩ (us ++ ds) (vs ++ dvs) Q E g room I1.env0 (hb s1 us I1.kIn l2) r2 q) ?_)
  intro r s' hq
  match r, hq with
  | .error e, hq => exact hx pins σ H1 s1 e s' I1 hq
  | .ok (.ret u), hq => exact I1.after hq⟩
/-! ### repr of data -/
theorem call_reprD (g : X.A.guards = some []) (hu : X.A.units + 64 < cLine) : CallR X (.builtin "repr") (fun xs H Q => ∃ (a : Addr) (d : PyData), xs = [.ref a] ∧ Dp X.K H (.ref a) d ∧ d.showable = true ∧ d.hasDict = false ∧ d.depth ≤ 20 ∧ d.shown.length ≤ sizeLine ∧ Q (.str d.shown) H) := by
  intro pn s σ H xs us Q I r h
  obtain ⟨a, d, rfl, hd, hs, hn, hp, hz, q⟩ := h
  match us, r with
  | [u], .cons r1 .nil =>
    cases r1
    obtain ⟨as, rd⟩ := Dp.reads I d _ _ hd rfl
    refine repr_of_reads' rd hs (fun z => by rw [hn] at z; cases z) g (by omega) (fun _ _ z => z) (fun h' u tk keep => ?_) hz
    exact ⟨.str d.shown, H, I.kept keep, ⟨u, rfl⟩, q⟩
end
end Ver
namespace Ver
open PySem PySem.Spec PyProof.Rows L2 Evl
theorem hu65 {A : Around} {k : Nat} (hr : Room k A) : A.units + 65 < cLine := by
  have := hr.un
  omega
/-- n.f, n the error at a, of a class that the state tells -/
def tXpS (K : PySem.W.Frag) (a : Addr) (cls : Value) (d : Option Addr) (f : Str) (te : TE) : TE := fun σ H Q => te σ H fun x H1 => x = .ref a ∧ ∃ (C dd : Addr) (fs : List (Str × V)) (v : V), cls = .ref C ∧ XfC K C ∧ PySem.W.findIn K (.ref C) f = some none ∧ d = some dd ∧ H1 dd = some (.xd fs) ∧ fs.lookup f = some v ∧ Q v H1
theorem pe_xpS {X : Cx} {K : PySem.W.Frag} {p : Addr × Obj} {a : Addr} {cls : Value} {d : Option Addr} {e : Expr} {te : TE} {pos : Pos} {n : Str} (ek : X.K = K) (ea : p.1 = a) (hp : p ∈ X.pn)
    (hz : Zc cls d p.2) (hf : ∃ vs, p.2.data = .fields vs) (he : PE X e te) (hb : attributeBase e n X.env (eval e X.env) = eval e X.env := by rfl) : PE X (.Attribute e n pos) (tXpS K a cls d n te) := by
  subst ea
  subst ek
  refine ⟨fun pins s σ H Q I h => ?_⟩
  refine attr_of hb (thn (he.run pins s σ H _ I h) fun u s1 hh => ?_)
  obtain ⟨x, H1, I1, rx, ex, C, dd, fs, v, ec, T, hno, ed, ea, l, q⟩ := hh
  subst ex
  obtain rfl : u = Value.ref p.1 := rx
  subst ec
  subst ed
  obtain ⟨ha, _⟩ := I1.pin p (List.mem_append_left _ hp)
  obtain ⟨vs, hd⟩ := hf
  have hx : ObjOk X.prog X.w H1 s1.heap dd (.xd fs) := I1.hok dd _ ea
  obtain ⟨mA, hns, hr⟩ := hx
  obtain ⟨od, ho, hl⟩ := lookIn_ns hns
  obtain ⟨u, hu, ru⟩ := RelO.some_of (v := v) (o := mA n) (by rw [← l]; exact hr n)
  have J : PySem.W.InstAt s1.heap p.1 p.2 C (some od) := ⟨ha, hz.1, by unfold PySem.W.notCls; rw [hd] <;> rfl, by rw [hz.2]; exact ho⟩
  exact HandSPX.exc_get I1.kIn J T.ga T.gg T.exC (PySem.W.findObj_own T.hdC hno rfl (by rw [hl, hu])) (handed_of ru) ⟨v, H1, I1.tok _, ru, q⟩
section
variable {K : PySem.W.Frag} {σ : L2.St} {H : Hp} {te : TE}
theorem ev_xpS {a C dd : Addr} {cls : Value} {d : Option Addr} {fs : List (Str × V)} {f : Str} {v : V} (h : Ev te σ H (.ref a)) (hc : cls = .ref C) (x : XfC K C) (hn : PySem.W.findIn K (.ref C) f = some none) (hd : d = some dd) (hx : H dd = some (.xd fs)) (hl : fs.lookup f = some v) : Ev (tXpS K a cls d f te) σ H v := fun H1 e Q q =>
  h H1 e _ fun H2 e2 => ⟨rfl, C, dd, fs, v, hc, x, hn, hd, (e.trans e2) _ _ hx, hl, q H2 e2⟩
end
theorem call_isiK {X : Cx} {K : PySem.W.Frag} (ek : X.K = K) : CallR X (.builtin "isinstance") (rIsi K) := by
  subst ek
  exact call_isi
theorem call_listK {X : Cx} {K : PySem.W.Frag} (ek : X.K = K) : CallR X (.type "list") (fun xs H Q => ∃ p ys, xs = [.ref p] ∧ (SqL K H p ys ∨ SqT K H p ys) ∧ ∀ l, H l = none → Q (.ref l) (upd H l (.lst ys))) := by
  subst ek
  exact call_list_of
/-! ### repr of a text -/
theorem call_reprS {X : Cx} (g : X.A.guards = some []) (hu : X.A.units + 64 < cLine) : CallR X (.builtin "repr") (fun xs H Q => ∃ z : Str, xs = [.str z] ∧ (reprText z).length ≤ sizeLine ∧ Q (.str (reprText z)) H) := by
  intro pn s σ H xs us Q I r h
  obtain ⟨z, rfl, hz, q⟩ := h
  obtain ⟨u, rfl, t, rfl⟩ := vals1 r
  exact PySem.P.repr_of_str ⟨.str _, H, I.tok _, ⟨_, rfl⟩, q⟩ hz
theorem ev_reprS {σ : L2.St} {H : Hp} {ta : TE} {s : List Nat} (h : Ev ta σ H (tx s)) (hs : ∀ c ∈ s, c < 1114112) (hz : s.length ≤ 9000) : Ev (tCB (fun xs H Q => ∃ z : Str, xs = [.str z] ∧ (reprText z).length ≤ sizeLine ∧ Q (.str (reprText z)) H) (tCons ta tNil)) σ H (.str (reprText (SX.S s))) := fun H1 e Q q =>
  h H1 e _ fun H2 e2 => ⟨SX.S s, rfl, by
    have h1 := StrLaws.reprText_len (SX.S s) (by
      intro c hc
      have : c ∈ s := by simpa using hc
      have := hs c this
      omega)
    have h2 : (SX.S s).length = s.length := by rw [SX.S_len]
    have : sizeLine = 16777216 := by decide
    omega, q H2 e2⟩
/-! ### str of a bit -/
theorem str_bit {b : Nat} (h : b < 2) : (toString (b : Int) : Str) = SX.S [48 + b] := by
  match b, h with
  | 0, _ => decide +kernel
  | 1, _ => decide +kernel
theorem ev_strBit {σ : L2.St} {H : Hp} {ta : TE} {b : Nat} (hb : b < 2) (h : Ev ta σ H (.int (b : Int))) : Ev (tCB (fun xs H Q => ∃ i : Int, xs = [.int i] ∧ i.natAbs.log2 < 1920 ∧ Q (.str (toString i)) H) (tCons ta tNil)) σ H (tx [48 + b]) := fun H1 e Q q =>
  h H1 e _ fun H2 e2 => ⟨(b : Int), rfl, by
    match b, hb with
    | 0, _ => decide +kernel
    | 1, _ => decide +kernel, by rw [str_bit hb]; exact q H2 e2⟩
/-! ### long texts joined -/
theorem join_okB {K : PySem.W.Frag} {H : Hp} {p : Addr} {ps : List (List Nat)} (hp : SqL K H p (ps.map tx) ∨ SqT K H p (ps.map tx)) (hz : ps.flatten.length ≤ 1000000) {Q : VK} (q : Q (tx ps.flatten) H) : rJoin K (tx []) [.ref p] H Q := by
  refine ⟨SX.S [], p, ps.map SX.S, rfl, rfl, by rw [← map_tx]; exact hp, ?_, ?_⟩
  · rw [sum_lens, SX.S_len]
    have : sizeLine = 16777216 := by decide
    show _ + _ * 0 ≤ _
    omega
  · rw [join_flat]
    exact q
section
variable {K : PySem.W.Frag} {σ : L2.St} {H : Hp} {ta tb : TE}
theorem ev_joinB {p : Addr} {ps : List (List Nat)} (ha : Ev ta σ H (tx [])) (hb : Ev tb σ H (.ref p)) (hp : SqL K H p (ps.map tx) ∨ SqT K H p (ps.map tx)) (hz : ps.flatten.length ≤ 1000000) : Ev (tM1 (rJoin K) ta tb) σ H (tx ps.flatten) := fun H1 e Q q =>
  ha H1 e _ fun H2 e2 => ⟨⟨_, rfl⟩, hb H2 (e.trans e2) _ fun H3 e3 => join_okB (hp.elim (fun h => .inl (ex_l ((e.trans e2).trans e3) h)) (fun h => .inr (ex_t ((e.trans e2).trans e3) h))) hz (q H3 (e2.trans e3))⟩
theorem ev_joinLB {ps : List (List Nat)} (ha : Ev ta σ H (tx [])) (hb : EvL tb σ H (ps.map tx)) (hz : ps.flatten.length ≤ 1000000) : Ev (tM1 (rJoin K) ta tb) σ H (tx ps.flatten) := fun H1 e Q q =>
  ha H1 e _ fun H2 e2 => ⟨⟨_, rfl⟩, hb H2 (e.trans e2) _ fun p H3 _ e3 h3 => join_okB (.inl (sq_of h3)) hz (q H3 (e2.trans e3))⟩
end
end Ver
namespace Ver
open PySem PySem.Spec PyProof.Rows L2 Evl
/-! ### sorted(text) -/
theorem strs_signs : ∀ {vs : List Value} {l : List Nat}, vs.length = l.length → (∀ (j : Nat) (v : Value), vs[j]? = some v → ∃ c u, l[j]? = some c ∧ v = .str (SX.S [c]) u) → StrsAre vs (l.map fun c => SX.S [c])
  | [], [], _, _ => .nil
  | [], _ :: _, h, _ => by simp at h
  | _ :: _, [], h, _ => by simp at h
  | v :: vs, c :: l, h, k => by
    obtain ⟨d, u, h1, rfl⟩ := k 0 v rfl
    cases Option.some.inj h1
    exact .cons _ u (strs_signs (by simpa using h) fun j w hw => k (j + 1) w hw)
theorem sorted_sg {P : Program} {w : World} {A : Around} {E : Value → Shared → Prop} {s : Shared} {l : List Nat} {t : Tok} {Q : Value → Shared → Prop} (hh : A.handled = none) (h64 : l.length < 64)
    (hQ : ∀ s' p (out : Array Value) (c : Nat) (ys : List Str), (∀ b o, s.heap.get? b = some o → s'.heap.get? b = some o) → s'.gens = s.gens → s'.os = s.os → s.heap.get? p = none →
      s'.heap.get? p = some (seqObj "list" out c) → StrsAre out.toList ys → ys.Perm (l.map fun c => SX.S [c]) → sortedS ys = true → Q (.ref p) s') :
    wpAny (model P w) A (call (.builtin "sorted") [.str (SX.S l) t]) Q E s := by
  have hsz : (SX.S l).cps.size = l.length := by
    show l.toArray.size = _
    simp
  refine Calls.call_function_entry kind_sorted plain_sorted entry_sorted (args_sorted1 _) ?_
  unfold Builtin.«sorted»
  refine wpAny_bind (m := checkCount "sorted" 1 1 _) (wpAny_pure ?_)
  refine wpAny_bind (wpAny_collect_str (A := A.in1) hh (SX.S l) t (fun s1 acc k1 g1 d1 o1 hacc => ?_) (by rw [hsz, sizeLine_eq]; omega))
  have hl : acc.toList.length = l.length := by rw [Array.length_toList, hacc.1, hsz]
  have hI : StrsAre acc.toList (l.map fun c => SX.S [c]) := strs_signs hl fun j v hv => by
    obtain ⟨c, u, h1, h2⟩ := hacc.2 j v (by simpa using hv)
    have h3 : l.toArray[j]? = some c := h1
    exact ⟨c, u, by simpa using h3, h2⟩
  have hz : s.heap.get? s1.heap.objs.size = none := by
    cases e : s.heap.get? s1.heap.objs.size with
    | none => rfl
    | some u => exact absurd (Heap.lt_size (k1 _ _ e)) (Nat.lt_irrefl _)
  refine wpAny_bind (wpAny_newList ?_ (by rw [hl, sizeLine_eq]; omega))
  have hoL : (s1.heap.push (seqObj "list" acc.toList.toArray 0)).get? s1.heap.objs.size = some (seqObj "list" acc.toList.toArray 0) := Heap.get?_push_size _ rfl
  refine wpAny_bind (wpAny_holding (wpAny_call_entry slot_list_sort ⟨_, hoL, rfl⟩ entry_list_sort (list_sort_treeK strKind_oneLt hoL hI.keysOf (fun v1 v2 rest e => keyKind_strs (by rw [← e]; exact hI)) (by rw [hl]; exact h64) fun st' hp hs => ⟨_, rfl, ?_⟩) (args_list_sort _)))
  obtain ⟨ss', a1, a2, a3⟩ := sorted_out_str hI hp hs
  obtain ⟨c, hc⟩ := sortedHeap_at (vs := acc.toList) (out := (arrOf st').map (·.2)) hoL
  refine wpAny_pure ⟨_, rfl, hQ _ s1.heap.objs.size _ c ss' (fun b u e => ?_) g1 o1 hz hc a1 a2 a3⟩
  have q := k1 b u e
  have hlt := Heap.lt_size q
  show (sortedHeap (s1.heap.push (seqObj "list" acc.toList.toArray 0)) s1.heap.objs.size acc.toList _).get? b = some u
  rw [sortedHeap_old (Nat.ne_of_lt hlt) (by rw [size_push']; exact Nat.lt_succ_of_lt hlt)]
  exact Heap.get?_push_of_some _ q
def rSortSg : List V → Hp → VK → Prop := fun vs H Q => ∃ l : List Nat, vs = [tx l] ∧ l.length < 64 ∧ ∀ (ys : List Str) (p : Addr), ys.Perm (l.map fun c => SX.S [c]) → sortedS ys = true → H p = none → Q (.ref p) (upd H p (.lst (ys.map V.str)))
theorem call_sortedSg {X : Cx} (hc : X.calm = true) : CallR X (.builtin "sorted") rSortSg := by
  intro pins s σ H vs us Q I r h
  obtain ⟨l, rfl, h64, q⟩ := h
  obtain ⟨u, rfl, t, rfl⟩ := vals1 r
  refine sorted_sg (I.ok.hd hc) h64 fun s' p out c ys k g o hp hg hi pm hs => ?_
  have hlen : (ys.map V.str).length ≤ sizeLine := by rw [List.length_map, pm.length_eq, List.length_map, sizeLine_eq]; omega
  have hn : H p = none := I.hok.gone hp
  have J : Inv X pins σ (upd H p (.lst (ys.map V.str))) { s with heap := s'.heap, gens := s'.gens, drawn := s'.drawn, toks := s'.toks } :=
    I.call (ch := []) (Un.laidN k hp hn) (I.hok.laidN k hn ⟨hlen, out.toList, c, vals_of_strs hi, hg⟩) (by rw [g]; exact I.bare) (fun _ z => nomatch z)
  have e : s' = { s with heap := s'.heap, gens := s'.gens, drawn := s'.drawn, toks := s'.toks } := by
    cases s'
    cases s
    cases o
    rfl
  rw [e]
  exact ⟨.ref p, _, J, rfl, q ys p pm hs hn⟩
/-! ### a list made over a text, with a condition -/
section
variable {K : PySem.W.Frag} {σ : L2.St} {H : Hp} {te tl : TE} {t : TT}
theorem range_getD (x : List Nat) : (List.range x.length).map (fun i => x.getD i 0) = x := by
  refine List.ext_getElem (by simp) fun i h1 h2 => ?_
  rw [List.getElem_map, List.getElem_range, List.getD_eq_getElem?_getD, List.getElem?_eq_getElem h2]
  rfl
theorem given_filter (x : List Nat) (f : Nat → Bool) (v : Nat → V) : given x.length (fun i => f (x.getD i 0)) (fun i => v (x.getD i 0)) = (x.filter f).map v := by
  have e : x.filter f = ((List.range x.length).map fun i => x.getD i 0).filter f := by rw [range_getD]
  rw [e, List.filter_map, List.map_map]
  rfl
theorem el_lcSF {x : List Nat} {j : Nat} {vs : List Nat} (f : Nat → Bool) (v : Nat → V) (h : Ev tl σ H (tx x)) (hz : x.length ≤ 40000) (hw : ∀ a, wipe ((wipe σ vs).set j (some a)) vs = wipe σ vs)
    (ht : ∀ (i c : Nat) H1, Ex H H1 → x[i]? = some c → EvT t ((wipe σ vs).set j (some (tx [c]))) H1 (f c))
    (he : ∀ (i c : Nat) H1, Ex H H1 → x[i]? = some c → Ev te ((wipe σ vs).set j (some (tx [c]))) H1 (v c)) :
    EvL (tLc (iStr tl) (gName j) t te vs) σ H ((x.filter f).map v) := fun H0 e Q q => h H0 e _ fun H1 e1 => ⟨SX.S x, rfl, fun Dl hD => by
  have hn : (SX.S x).cps.size = x.length := by
    show x.toArray.size = _
    simp
  refine lc_it (walk_str (z := SX.S x)) (Cw H1 (fun i => f (x.getD i 0)) (fun i => v (x.getD i 0)) Dl) ⟨hD, Ex.new hD, upd_same⟩ (fun _ _ _ _ => trivial) (fun i z H' H2 hi p yp => ?_) (fun H' p => ?_)
  · obtain ⟨rfl, c, hc, rfl⟩ := yp
    have hc2 : x[i]? = some c := by
      have : (SX.S x).cps.toList[i]? = some c := by rw [Array.getElem?_toList]; exact hc
      exact this
    have hlt := (List.getElem?_eq_some_iff.mp hc2).1
    have eg : x.getD i 0 = c := by
      rw [List.getD_eq_getElem?_getD, hc2]
      rfl
    refine ⟨hw _, cw_turn p (by omega) ?_ fun _ => ?_⟩
    · rw [eg]
      exact ht i c H1 (e.trans e1) hc2
    · rw [eg]
      exact he i c H1 (e.trans e1) hc2
  · rw [hn] at p
    have p3 := p.2.2
    rw [given_filter] at p3
    exact q Dl H' (fresh_back e1 p.1) (e1.trans p.2.1) p3⟩
end
theorem rv_niSign {c : Nat} {l : List Nat} {H : Hp} : RV (fun x y H Q => ∃ (c : Nat) (z : Str), x = .str ⟨#[c]⟩ ∧ y = .str z ∧ Q (.bl (!decide (c ∈ z.cps.toList))) H) (tx [c]) (tx l) H (.bl (!decide (c ∈ l))) := fun H1 _ Q q => ⟨c, SX.S l, rfl, rfl, by
  have e : (SX.S l).cps.toList = l := by
    show l.toArray.toList = l
    simp
  rw [e]
  exact q H1 (Ex.refl H1)⟩
end Ver
namespace Ver
open PySem PySem.Spec PyProof.Rows L2 Evl
/-! ### == of an own object and anything; isinstance of anything -/
theorem sub_no {K : PySem.W.Frag} {C : Addr} {T : String} {l : List Value} (h : fastBuiltinMro T = some l) (hl : l.all (fun v => match v with | .type _ => true | _ => false) = true) : PySem.W.subIn K (.type T) (.ref C) = some false := by
  show (fastBuiltinMro T).map (fun l => l.contains (.ref C)) = some false
  rw [h]
  show some (l.contains (.ref C)) = some false
  congr 1
  rw [List.contains_eq_any_beq, List.any_eq_false]
  intro x hx
  have := List.all_eq_true.mp hl x hx
  cases x with
  | type n =>
    intro z
    cases (beq_iff_eq.mp z)
  | _ => cases this
theorem notFirst_ty {K : PySem.W.Frag} {C : Addr} {T : String} (e : PySem.W.subIn K (.type T) (.ref C) = some false) : PySem.W.notFirst K C (.type T) = true := by
  show ((.type T : Value) == .ref C || PySem.W.subIn K (.type T) (.ref C) == some false) = true
  rw [e]
  exact Bool.or_true _
theorem kit_no_of {K : PySem.W.Frag} {C : Addr} {T : String} (ks : PySem.W.kitOne K (.type "str") (.ref C) = some false) (e : PySem.W.subIn K (.type T) (.ref C) = some false) : PySem.W.kitOne K (.type T) (.ref C) = some false := by
  unfold PySem.W.kitOne at ks ⊢
  have h1 : ((.type "str" : Value) == .ref C) = false := rfl
  have h2 : ((.type T : Value) == .ref C) = false := rfl
  rw [h1] at ks
  rw [h2]
  simp only [Bool.false_eq_true, if_false] at ks ⊢
  unfold PySem.W.kitCls at ks ⊢
  simp only at ks ⊢
  split at ks
  · rename_i h
    rw [if_pos h]
    exact e
  · cases ks
theorem sub_int {K : PySem.W.Frag} {C : Addr} : PySem.W.subIn K (.type "int") (.ref C) = some false := sub_no (l := [.type "int", .type "object"]) (by rfl) (by rfl)
theorem sub_bool {K : PySem.W.Frag} {C : Addr} : PySem.W.subIn K (.type "bool") (.ref C) = some false := sub_no (l := [.type "bool", .type "int", .type "object"]) (by rfl) (by rfl)
theorem sub_non {K : PySem.W.Frag} {C : Addr} : PySem.W.subIn K (.type "NoneType") (.ref C) = some false := sub_no (l := [.type "NoneType", .type "object"]) (by rfl) (by rfl)
theorem sub_tup {K : PySem.W.Frag} {C : Addr} : PySem.W.subIn K (.type "tuple") (.ref C) = some false := sub_no (l := [.type "tuple", .type "object"]) (by rfl) (by rfl)
/-- what stands on the right of an own == -/
inductive RightOf (H : Hp) (C : Addr) : V → Prop where
  | own {b dy : Addr} {gs : List (Str × V)} : H b = some (.ins C dy gs) → RightOf H C (.ref b)
  | tup {b : Addr} {xs : List V} : H b = some (.tup xs) → RightOf H C (.ref b)
  | str (s : Str) : RightOf H C (.str s)
  | int (i : Int) : RightOf H C (.int i)
  | bl (b : Bool) : RightOf H C (.bl b)
  | non : RightOf H C .non
theorem RightOf.mono {H H' : Hp} {C : Addr} {y : V} (h : RightOf H C y) (e : Ex H H') : RightOf H' C y := by
  cases h with
  | own h => exact .own (e _ _ h)
  | tup h => exact .tup (e _ _ h)
  | str s => exact .str s
  | int i => exact .int i
  | bl b => exact .bl b
  | non => exact .non
def rOwnA (C : Addr) (sp : Sp) (E : XK) : R2 := fun x y H Q => ∃ a dx fs, x = .ref a ∧ H a = some (.ins C dx fs) ∧ RightOf H C y ∧ sp [x, y] H (fun v H' => (∃ b, v = .bl b) ∧ Q v H') E
section
variable {X : Cx} {CX : CXT} {k : Nat} {f C : Addr} {fd : FuncData} {ps : List Str} {sp : Sp} {E : XK}
theorem op_ownA (M : Meth X.K C "__eq__" f) (F : FnOk X.prog X.w X.K X.mg X.base CX k f fd ps sp) (hr : Room k X.A) (hb : L2.Binds X.K fd ps []) (hx : Passes CX X E) : OpR X (compareOp .Eq) (rOwnA C sp E) := by
  intro pins s σ H x y v u Q I rx ry h
  obtain ⟨a, dx, fs, rfl, ha, hy, hq⟩ := h
  obtain rfl : v = Value.ref a := rx
  obtain ⟨mA, J, _⟩ := ins_get I.hok ha
  obtain ⟨od, J, _⟩ := J.look
  obtain ⟨m, hF⟩ := I.fr
  show wpAny (model X.prog X.w) X.A (richCompare .Eq (.ref a) u) (EP X pins σ Q) X.xe s
  have go : wpAny (model X.prog X.w) X.A (call (.ref f) [.ref a, u]) (PySem.W.CmpBack (EP X pins σ Q)) X.xe s :=
    wpAny_mono (run_fn (us := [.ref a, u]) (vs := [.ref a, y]) (dvs := []) (ds := []) F hr hb .nil hx I (.cons rfl (.cons ry .nil)) hq) (fun r s' z => by
      obtain ⟨w, H', I', rw', ⟨b, hb'⟩, q⟩ := z
      subst hb'
      obtain rfl : r = Value.bool b := rw'
      exact ⟨.bl b, H', I', rfl, q⟩) fun _ _ z => z
  cases hy with
  | @own b dy gs hb2 =>
    obtain rfl : u = Value.ref b := ry
    obtain ⟨mB, J', _⟩ := ins_get I.hok hb2
    obtain ⟨od', J', _⟩ := J'.look
    exact PySem.W.cmp_K (op := .Eq) (tb := .ref C) hr.units0 hF I.ok.mod.kin J J'.type notFirst_own M.at_ M.fn go
  | @tup b xs hb2 =>
    obtain rfl : u = Value.ref b := ry
    obtain ⟨_, its, rv, o, h1, h2, n, h3⟩ := (show ObjOk X.prog X.w H s.heap b (.tup xs) from I.hok b _ hb2)
    have ty : PySem.W.Looks (model X.prog X.w) s.heap (typeOf (.ref b)) (.type "tuple") := h2 ▸ (PySem.W.Looks.ld h1).andThen .now
    exact PySem.W.cmp_K (op := .Eq) (tb := .type "tuple") hr.units0 hF I.ok.mod.kin J ty (notFirst_ty sub_tup) M.at_ M.fn go
  | str t =>
    obtain ⟨tk, rfl⟩ : ∃ tk, u = Value.str t tk := ry
    exact PySem.W.cmp_K (op := .Eq) (tb := .type "str") hr.units0 hF I.ok.mod.kin J (PySem.W.looks_typeIn I.kIn rfl) notFirst_str M.at_ M.fn go
  | int i =>
    obtain ⟨tk, rfl⟩ : ∃ tk, u = Value.int i tk := ry
    exact PySem.W.cmp_K (op := .Eq) (tb := .type "int") hr.units0 hF I.ok.mod.kin J (PySem.W.looks_typeIn I.kIn rfl) (notFirst_ty sub_int) M.at_ M.fn go
  | bl b =>
    obtain rfl : u = Value.bool b := ry
    exact PySem.W.cmp_K (op := .Eq) (tb := .type "bool") hr.units0 hF I.ok.mod.kin J (PySem.W.looks_typeIn I.kIn rfl) (notFirst_ty sub_bool) M.at_ M.fn go
  | non =>
    obtain rfl : u = Value.none := ry
    exact PySem.W.cmp_K (op := .Eq) (tb := .type "NoneType") hr.units0 hF I.ok.mod.kin J (PySem.W.looks_typeIn I.kIn rfl) (notFirst_ty sub_non) M.at_ M.fn go
end
section
variable {K : PySem.W.Frag} {σ : L2.St} {H : Hp} {C : Addr} {ta tb : TE}
theorem ev_ownA {sp : Sp} {E : XK} {a dx : Addr} {fs : List (Str × V)} {y : V} {b : Bool} (ha : Ev ta σ H (.ref a)) (hb : Ev tb σ H y) (hi : H a = some (.ins C dx fs)) (hy : RightOf H C y)
    (hs : ∀ H1, Ex H H1 → ∀ Q : VK, (∀ H2, Ex H1 H2 → Q (.bl b) H2) → sp [.ref a, y] H1 Q E) : Ev (tOp (rOwnA C sp E) ta tb) σ H (.bl b) := fun H1 e Q q => ha H1 e _ fun H2 e2 => hb H2 (e.trans e2) _ fun H3 e3 =>
  ⟨a, dx, fs, rfl, ((e.trans e2).trans e3) _ _ hi, hy.mono ((e.trans e2).trans e3), hs H3 ((e.trans e2).trans e3) _ fun H4 e4 => ⟨⟨b, rfl⟩, q H4 ((e2.trans e3).trans e4)⟩⟩
/-- isinstance(y, C): y no object of the class -/
theorem rc_isiNo {y : V} {T : String} (G : EqC K C) (e : PySem.W.subIn K (.type T) (.ref C) = some false) (ht : ∀ H1, Ex H H1 → TyX K H1 y (.type T)) : RC (rIsi K) [y, .ref C] H (.bl false) := fun H1 x _ q =>
  ⟨y, .ref C, _, _, false, rfl, .own C, ht H1 x, kit_no_of G.ks e, q H1 (Ex.refl H1)⟩
end
/-! ### equal rows -/
theorem eqv_rows : ∀ as bs : Rw, PyData.eqvAll (as.map pd) (bs.map pd) = decide (as = bs)
  | [], [] => rfl
  | [], b :: bs => by simp [PyData.eqvAll]
  | a :: as, [] => by simp [PyData.eqvAll]
  | a :: as, b :: bs => by
    rw [List.map_cons, List.map_cons, PyData.eqvAll, pd_eqv, eqv_rows as bs, Bool.eq_iff_iff, Bool.and_eq_true, decide_eq_true_eq, decide_eq_true_eq, decide_eq_true_eq, List.cons.injEq]
theorem rv_eqRows {K : PySem.W.Frag} {H : Hp} {p q : Addr} {xs ys : List V} {rs qs : Rw} {al al2 : List Nat} (A : Alf al) (A2 : Alf al2) (hr : ∀ r ∈ rs, r.2 ∈ al) (hq : ∀ r ∈ qs, r.2 ∈ al2) (h1 : H p = some (.tup xs)) (h2 : RowsAt H xs rs) (h3 : H q = some (.tup ys)) (h4 : RowsAt H ys qs) : RV (rEqD K) (.ref p) (.ref q) H (.bl (decide (rs = qs))) := fun H1 e Q k =>
  ⟨.tuple (rs.map pd), .tuple (qs.map pd), .tup (st_of (e _ _ h1)) (dp_rows _ _ (h2.mono e)), .tup (st_of (e _ _ h3)) (dp_rows _ _ (h4.mono e)), shaped_tup (n := 1) (fun d hd => by
    obtain ⟨r, hr', rfl⟩ := List.mem_map.mp hd
    exact lay_pd (A.uni (hr r hr'))) (by decide), shaped_tup (n := 1) (fun d hd => by
    obtain ⟨r, hr', rfl⟩ := List.mem_map.mp hd
    exact lay_pd (A2.uni (hq r hr'))) (by decide), by
    show Q (.bl (PyData.eqvAll (rs.map pd) (qs.map pd))) H1
    rw [eqv_rows]
    exact k H1 (Ex.refl H1)⟩
end Ver
namespace Ver
open PySem PySem.Spec PyProof.Rows L2 Evl
/-! ### f(k = v, ..) that may raise, in a try -/
def tCallNS (m : Nat) (sp : Sp) (gV : List V → List V → List V) (E : L2.St → XK) (tk : TA) : TE := fun σ H Q => tk σ H fun zs H2 => zs.length = m ∧ sp (gV [] zs) H2 Q (E σ)
section
variable {X : Cx} {CX : CXT} {k : Nat} {f : Addr} {fd : FuncData} {ps ks : List Str} {sp : Sp} {E : L2.St → XK} {x : Str} {p pos : Pos} {kws : List Keyword} {tk : TA} {g : List Value → List Value → List Value} {gV : List V → List V → List V}
theorem run_kwS {pins : List (Addr × Obj)} {σ : L2.St} {H : Hp} {s : Shared} {Q : VK} {ws : List Value} {zs : List V} (F : FnOk X.prog X.w X.K X.mg X.base CX k f fd ps sp) (hr : Room k X.A) (hb : KBn X.K fd ps 0 ks g gV) (hx : PassesAt CX X σ (E σ))
    (I : Inv X pins σ H s) (rz : Vals zs ws) (l2 : zs.length = ks.length) (h : sp (gV [] zs) H Q (E σ)) : wpAny (model X.prog X.w) X.A (call (.ref f) [] (ks.zip ws)) (EP X pins σ Q) X.xe s := by
  have r2 := hb.rel (vs := []) (us := []) .nil rz
  refine wpAny_call (codeAny_mono (F.run X.A X.stack s H ⟨[], ks.zip ws⟩ (g [] ws) (gV [] zs) Q (E σ) hr I.env0 (hb.to s [] ws I.kIn rfl (rz.length.symm.trans l2)) r2 h) ?_)
  intro r s' hq
  match r, hq with
  | .error e, hq => exact hx pins H s e s' I hq
  | .ok (.ret u), hq => exact I.after hq
theorem pe_callNS (F : FnOk X.prog X.w X.K X.mg X.base CX k f fd ps sp) (room : Room k X.A) (gl : Gl X x) (at_ : X.mg x = some (.ref f)) (keep : PySem.W.keepIn X.K (.ref f) = true)
    (bd : KBn X.K fd ps 0 ks g gV) (pass : ∀ σ, PassesAt CX X σ (E σ)) (kw : PK X kws tk)
    (named : (backToKw pos (keywordEach kws X.env)).all (·.1.isSome) = true := by rfl)
    (names : (backToKw pos (keywordEach kws X.env)).filterMap (·.1) = ks := by rfl)
    (nodebug : (x == ("__debug__" : Str)) = false := by decide)
    (plain : ((backTo pos (starEach [] X.env)).any (·.1) || (backToKw pos (keywordEach kws X.env)).any (·.1.isNone)) = false := by rfl) :
    PE X (.Call (.Name x p) [] kws pos) (tCallNS ks.length sp gV E tk) := by
  refine ⟨fun pins s σ H Q I h => ?_⟩
  refine wpAny_Call_Name_kw (ld_glob I gl at_ ?_ nodebug)
  refine PySem.W.callWith_KW0 (h₀ := X.base) I.ok.mod.kin keep named ?_ plain
  refine thn (kw.run pos pins s σ H _ I h) ?_
  intro ws s2 got
  obtain ⟨zs, H2, I2, rz, l2, q2⟩ := got
  refine ⟨I2.kIn, ?_⟩
  rw [names]
  exact run_kwS F room bd (pass σ) I2 rz l2 q2
end
theorem s_asgNS {σ : L2.St} {H : Hp} {D : Ends} {sp : Sp} {E : L2.St → XK} {tk : TA} {zs : List V} {i n : Nat} {gV : List V → List V → List V} (h : EvA tk σ H zs) (hn : zs.length = n) (k : ∀ H1, Ex H H1 → sp (gV [] zs) H1 (fun v H2 => D.nx (σ.set i (some v)) H2) (E σ)) : tAsg (tCallNS n sp gV E tk) (gName i) D σ H := h H (Ex.refl H) _ fun H1 e1 => ⟨hn, k H1 e1⟩
theorem s_asgCS {σ : L2.St} {H : Hp} {D : Ends} {sp : Sp} {E : L2.St → XK} {ta : TA} {vs : List V} {i : Nat} (h : EvA ta σ H vs) (k : ∀ H1, Ex H H1 → sp vs H1 (fun v H2 => D.nx (σ.set i (some v)) H2) (E σ)) : tAsg (tCallS sp E ta) (gName i) D σ H := h H (Ex.refl H) _ k
end Ver
namespace Ver
open PySem PySem.Spec PyProof.Rows L2 Evl
/-! ### C.m(..), m a staticmethod of the class at C -/
structure SMet (K : PySem.W.Frag) (C : Addr) (mc : Value) (m : Str) (g : Addr) : Prop where
  ex : ∃ p, PySem.W.findCls K (.ref C) mc m = some (.get (.builtin "staticmethod.__get__") (.ref p) .none (.ref C)) ∧ ∃ rest, PySem.W.recIn K p "staticmethod" = some (.ref g :: rest)
  kp : PySem.W.keepIn K (.ref g) = true
def tSMeth (C : Addr) (sp : Sp) (E : XK) (ta : TE) (t : TA) : TE := fun σ H Q => ta σ H fun x H1 => x = .ref C ∧ t σ H1 fun vs H2 => sp vs H2 Q E
section
variable {X : Cx} {CX : CXT} {k n : Nat} {f C : Addr} {fd : FuncData} {ps ks : List Str} {sp : Sp} {E : XK} {mc : Value} {o e : Expr} {es : List Expr} {m : Str} {pos apos : Pos} {ta : TE} {t tk : TA} {dvs : List V} {ds : List Value} {kws : List Keyword} {g : List Value → List Value → List Value} {gV : List V → List V → List V}
theorem pe_smeth {pl : Sem Bool} (he : PE X o ta) (r : ClX.CRead X.K C mc) (c : SMet X.K C mc m f) (F : FnOk X.prog X.w X.K X.mg X.base CX k f fd ps sp) (hr : Room k X.A) (hb : L2.Binds X.K fd ps []) (hx : Passes CX X E) (ha : PA X (e :: es) t)
    (hst : starEach (e :: es) X.env = (false, eval e X.env) :: starEach es X.env := by rfl) (hpl : (backTo pos (starEach es X.env)).any (·.1) = false := by rfl)
    (ht : eval (.Call (.Attribute o m apos) (e :: es) [] pos) X.env = (do
      let ov ← eval o X.env
      standAt apos.atName
      let (f, first) ← holding [ov] (getMethod ov m pl)
      callWith pos f first (backTo pos (starEach (e :: es) X.env)) (backToKw pos (keywordEach [] X.env))) := by rfl) :
    PE X (.Call (.Attribute o m apos) (e :: es) [] pos) (tSMeth C sp E ta t) := by
  refine ⟨fun pins s σ H Q I h => ?_⟩
  refine PySem.W.methodCall_KW (pl := pl) (thn (he.run pins s σ H _ I h) fun u s1 ⟨x, H1, I1, rx, ex, q⟩ => ?_) ht
  subst ex
  obtain rfl : u = Value.ref C := rx
  obtain ⟨p, h1, rest, h2⟩ := c.ex
  refine PySem.W.method_cls I1.kIn r.ga (PySem.W.cls_bind I1.kIn r.rd h1 (wpAny_call (PySem.W.sm_get (s := { s1 with toks := s1.toks + 1 }) I1.kIn h2 (PySem.W.handed_on rfl ?_))))
  have I2 := I1.tok (s1.toks + 1)
  refine PySem.W.callWith_K (h₀ := X.base) I.ok.mod.kin c.kp (thn (ha.run pos pins _ σ H1 _ I2 q) fun us s2 ⟨vs, H2, I3, r', q2⟩ => ⟨I3.kIn, ?_⟩) hst hpl
  exact run_fn (us := us) (vs := vs) (dvs := []) (ds := []) F hr hb .nil hx I3 r' (by rw [List.append_nil]; exact q2)
/-! ### o.m(..) that may raise: with defaults, by keywords -/
def tMethX (C : Addr) (m : Str) (sp : Sp) (dvs : List V) (E : L2.St → XK) (ta : TE) (t : TA) : TE := fun σ H Q => ta σ H fun x H1 => ∃ a dx fs, x = .ref a ∧ H1 a = some (.ins C dx fs) ∧ fs.lookup m = none ∧ t σ H1 fun vs H2 => sp (x :: (vs ++ dvs)) H2 Q (E σ)
theorem pe_methX {E : L2.St → XK} {pl : Sem Bool} (he : PE X o ta) (c : Cls X.K C) (hm : Meth X.K C m f) (F : FnOk X.prog X.w X.K X.mg X.base CX k f fd ps sp) (hr : Room k X.A) (hb : L2.Binds X.K fd ps ds) (hd : Vals dvs ds) (hx : ∀ σ, PassesAt CX X σ (E σ)) (ha : PA X (e :: es) t)
    (hst : starEach (e :: es) X.env = (false, eval e X.env) :: starEach es X.env := by rfl) (hpl : (backTo pos (starEach es X.env)).any (·.1) = false := by rfl)
    (ht : eval (.Call (.Attribute o m apos) (e :: es) [] pos) X.env = (do
      let ov ← eval o X.env
      standAt apos.atName
      let (f, first) ← holding [ov] (getMethod ov m pl)
      callWith pos f first (backTo pos (starEach (e :: es) X.env)) (backToKw pos (keywordEach [] X.env))) := by rfl) :
    PE X (.Call (.Attribute o m apos) (e :: es) [] pos) (tMethX C m sp dvs E ta t) := by
  refine ⟨fun pins s σ H Q I h => ?_⟩
  refine PySem.W.methodCall_KW (pl := pl) (thn (he.run pins s σ H _ I h) fun u s1 ⟨x, H1, I1, rx, a, dx, fs, ex, ea, l, q⟩ => ?_) ht
  subst ex
  obtain rfl : u = Value.ref a := rx
  refine getmeth_ok I1 ea c hm l ?_
  refine PySem.W.callWith_K (first := [.ref a]) (h₀ := X.base) I.ok.mod.kin hm.kp (thn (ha.run pos pins s1 σ H1 _ I1 q) fun us s2 ⟨vs, H2, I2, r, q2⟩ => ⟨I2.kIn, ?_⟩) hst hpl
  exact run_fnSD (us := .ref a :: us) (vs := .ref a :: vs) F hr hb hd (hx σ) I2 (.cons rfl r) q2
/-- the call by keywords, what is raised at the caller's slots -/
theorem run_fnNS {pins : List (Addr × Obj)} {σ : L2.St} {H : Hp} {s : Shared} {Q : VK} {us ws : List Value} {vs zs : List V} {E : L2.St → XK} (F : FnOk X.prog X.w X.K X.mg X.base CX k f fd ps sp) (hr : Room k X.A) (hb : KBn X.K fd ps n ks g gV) (hx : PassesAt CX X σ (E σ))
    (I : Inv X pins σ H s) (r : Vals vs us) (rz : Vals zs ws) (l1 : vs.length = n) (l2 : zs.length = ks.length) (h : sp (gV vs zs) H Q (E σ)) : wpAny (model X.prog X.w) X.A (call (.ref f) us (ks.zip ws)) (EP X pins σ Q) X.xe s := by
  have r2 := hb.rel r rz
  refine wpAny_call (codeAny_mono (F.run X.A X.stack s H ⟨us, ks.zip ws⟩ (g us ws) (gV vs zs) Q (E σ) hr I.env0 (hb.to s us ws I.kIn (r.length.symm.trans l1) (rz.length.symm.trans l2)) r2 h) fun r s' hq => ?_)
  cases r with
  | error e => exact hx pins H s e s' I hq
  | ok fl =>
    cases fl with
    | ret u => exact I.after hq
    | next => exact False.elim hq
    | brk => exact False.elim hq
    | cont => exact False.elim hq
def tMethNX (C : Addr) (m : Str) (n j : Nat) (sp : Sp) (gV : List V → List V → List V) (E : L2.St → XK) (ta : TE) (t tk : TA) : TE := fun σ H Q => ta σ H fun x H1 => ∃ a dx fs, x = .ref a ∧ H1 a = some (.ins C dx fs) ∧ fs.lookup m = none ∧ t σ H1 fun vs H2 => tk σ H2 fun zs H3 => vs.length + 1 = n ∧ zs.length = j ∧ sp (gV (x :: vs) zs) H3 Q (E σ)
theorem pe_methNX {E : L2.St → XK} {pl : Sem Bool} (he : PE X o ta) (c : Cls X.K C) (hm : Meth X.K C m f) (F : FnOk X.prog X.w X.K X.mg X.base CX k f fd ps sp) (hr : Room k X.A) (hb : KBn X.K fd ps n ks g gV) (hx : ∀ σ, PassesAt CX X σ (E σ)) (ha : PA X (e :: es) t) (hkw : PK X kws tk)
    (hall : (backToKw pos (keywordEach kws X.env)).all (·.1.isSome) = true := by rfl) (hks : (backToKw pos (keywordEach kws X.env)).filterMap (·.1) = ks := by rfl) (hst : starEach (e :: es) X.env = (false, eval e X.env) :: starEach es X.env := by rfl)
    (hpl : ((backTo pos (starEach (e :: es) X.env)).any (·.1) || (backToKw pos (keywordEach kws X.env)).any (·.1.isNone)) = false := by rfl)
    (ht : eval (.Call (.Attribute o m apos) (e :: es) kws pos) X.env = (do
      let ov ← eval o X.env
      standAt apos.atName
      let (f, first) ← holding [ov] (getMethod ov m pl)
      callWith pos f first (backTo pos (starEach (e :: es) X.env)) (backToKw pos (keywordEach kws X.env))) := by rfl) :
    PE X (.Call (.Attribute o m apos) (e :: es) kws pos) (tMethNX C m n ks.length sp gV E ta t tk) := by
  refine ⟨fun pins s σ H Q I h => ?_⟩
  refine PySem.W.methodCall_KW (pl := pl) (thn (he.run pins s σ H _ I h) fun u s1 ⟨x, H1, I1, rx, a, dx, fs, ex, ea, l, q⟩ => ?_) ht
  subst ex
  obtain rfl : u = Value.ref a := rx
  refine getmeth_ok I1 ea c hm l ?_
  refine PySem.W.callWith_KW (first := [.ref a]) (h₀ := X.base) I.ok.mod.kin hm.kp hall (thn (ha.run pos pins s1 σ H1 _ I1 q) fun us s2 ⟨vs, H2, I2, r, q2⟩ => ?_) hpl hst
  refine thn (hkw.run pos pins s2 σ H2 _ I2 q2) fun ws s3 ⟨zs, H3, I3, rz, l1, l2, q3⟩ => ⟨I3.kIn, ?_⟩
  rw [hks]
  exact run_fnNS (us := .ref a :: us) (vs := .ref a :: vs) F hr hb (hx σ) I3 (.cons rfl r) rz l1 l2 q3
end
end Ver
namespace Ver
open PySem PySem.Spec PyProof.Rows L2 Evl
/-! ### zip of a text and a tuple -/
def Izst (K : PySem.W.Frag) (x : Str) (b : Addr) (ys : List V) : It where
  go := fun i H => i < x.cps.size ∧ i < ys.length ∧ SqT K H b ys
  yld := fun i H v H' => ∃ T c y, v = .ref T ∧ H T = none ∧ H' = upd H T (.tup [.str ⟨#[c]⟩, y]) ∧ x.cps[i]? = some c ∧ ys[i]? = some y
  stop := fun i H => i ≤ x.cps.size ∧ i ≤ ys.length ∧ (i = x.cps.size ∨ i = ys.length) ∧ SqT K H b ys
section
variable {P : Program} {w : World} {K : PySem.W.Frag} {elts : List Expr} {kk : Nat} {tpos : Pos}
theorem turnZst (x : Str) (ys : List V) (t : Tok) (z TI TO i1 i2 b : Addr) (S : ZipSep2 z TI TO i1 i2 [i1] [i2, b]) (hne : b ≠ i2) : Turn P w K (.Tuple elts kk tpos) (Izst K x b ys) [z, TI, TO, i1, i2] z
    (fun i h => IsZip h z TI TO .none ∧ IsTupOf2 h TI (.ref i1) (.ref i2) ∧ (∃ a1 a2, IsTupOf2 h TO a1 a2) ∧ h.IsStrIter i1 (strIterType x) x t i ∧ h.IsTupleIter i2 b i) where
  mem := List.mem_cons_self ..
  obj := fun i h st c hc => by
    obtain ⟨hz, hTI, ⟨a1, a2, hTO⟩, ⟨o1, e1, _, d1⟩, ⟨o2, e2, _, d2⟩⟩ := st
    rcases five_mem hc with q | q | q | q | q
    · rw [q]; exact ⟨_, hz, fun v q => nomatch q⟩
    · rw [q]; exact ⟨_, hTI, fun v q => nomatch q⟩
    · rw [q]; exact ⟨_, hTO, fun v q => nomatch q⟩
    · rw [q]; exact ⟨o1, e1, fun v q => by rw [d1] at q; cases q⟩
    · rw [q]; exact ⟨o2, e2, fun v q => by rw [d2] at q; cases q⟩
  keep := fun i h h' st k => by
    obtain ⟨hz, hTI, ⟨a1, a2, hTO⟩, h1, h2⟩ := st
    exact ⟨k z (by simp) _ hz, k TI (by simp) _ hTI, ⟨a1, a2, k TO (by simp) _ hTO⟩, si_at h1 fun o q => k i1 (by simp) o q, h2.at fun o q => k i2 (by simp) o q⟩
  item := by
    intro X hP hw hK hc i pins s σ H E I hf st hg
    subst hP hw hK
    obtain ⟨hz, hTI, ⟨a1, a2, hTO⟩, h1, h2⟩ := st
    obtain ⟨its, rv, p, _⟩ := I.tuple hg.2.2
    have D1 := Draws.text (prog := X.prog) (w := X.w) (A := X.A.in1) (I.ok.hd hc) i1 x t
    have D2 := Draws.tuple (prog := X.prog) (w := X.w) (A := X.A.in1) (I.ok.hd hc) i2 b hne its.toArray
    have hzl : z < s.heap.objs.size := Heap.lt_size hz
    have l1 : i1 < s.heap.objs.size := by
      obtain ⟨o, e, _⟩ := h1
      exact Heap.lt_size e
    have l2 : i2 < s.heap.objs.size := by
      obtain ⟨o, e, _⟩ := h2
      exact Heap.lt_size e
    have hlen := rv.length
    refine wpAny_pyNext_zipD2_item S D1 D2 hz hTI hTO h1 ⟨h2, (show s.heap.IsTuple b its.toArray from p)⟩ hg.1 (by rw [List.size_toArray, ← hlen]; exact hg.2.1) fun y1 y2 h' tk ⟨c, u1, hc1, ev1⟩ hy2 b1 b2 s1 s2 hT hsz hk => ?_
    subst ev1
    have hy3 : its[i]? = some y2 := by simpa using hy2
    have hyi : ys[i]? = some (ys[i]'hg.2.1) := List.getElem?_eq_getElem hg.2.1
    obtain ⟨u2, hu2, ru2⟩ := rv.get hyi
    obtain rfl : u2 = y2 := Option.some.inj (hu2.symm.trans hy3)
    refine ⟨_, rfl, wpAny_letOwnedTupleGo_zip (s := { s with heap := h', toks := tk }) b1 fun h'' z'' sb => ?_⟩
    have hT2 : h''.get? s.heap.objs.size = some { cls := .type "tuple", data := .seq #[.str ⟨#[c]⟩ u1, u2] } := (sb.2 _ (Nat.ne_of_gt hzl)).trans hT
    have new : ObjOk X.prog X.w (upd H s.heap.objs.size (.tup [.str ⟨#[c]⟩, ys[i]'hg.2.1])) h'' s.heap.objs.size (.tup [.str ⟨#[c]⟩, ys[i]'hg.2.1]) :=
      ⟨(by show 2 ≤ sizeLine; decide), [.str ⟨#[c]⟩ u1, u2], .cons ⟨_, rfl⟩ (.cons ru2 .nil), ⟨_, hT2, rfl, _, rfl⟩⟩
    have I1 : Inv X pins σ (upd H s.heap.objs.size (.tup [.str ⟨#[c]⟩, ys[i]'hg.2.1])) { s with heap := h'', toks := tk } := by
      refine I.turnedNew (ch := [z, TI, TO, i1, i2]) (fun b ob nb q => ?_) hf (Nat.le_refl _) new
      exact (sb.2 b (fun q' => nb (by simp [q']))).trans (hk b ob (fun q' => nb (by simp [q'])) (fun q' => nb (by simp [q'])) (fun q' => nb (by simp [q'])) (fun q' => nb (by simp [q'])) q)
    refine ⟨.ref s.heap.objs.size, _, I1, rfl, ⟨_, c, _, rfl, I.hok.fresh (Nat.le_refl _), rfl, hc1, hyi⟩, ⟨z'', ?_, ⟨.str ⟨#[c]⟩ u1, u2, ?_⟩, ?_, ?_⟩, fun b hb => ?_⟩
    · exact (sb.2 _ S.TIz).trans (hk _ _ S.TIz S.TITO S.TIi1 S.TIi2 hTI)
    · exact (sb.2 _ S.TOz).trans b2
    · exact si_at s1 fun o q => (sb.2 _ S.zi1.symm).trans q
    · exact s2.1.at fun o q => (sb.2 _ S.zi2.symm).trans q
    · have hlt : b < s.heap.objs.size := by
        rcases five_mem hb with q | q | q | q | q
        · rw [q]; exact hzl
        · rw [q]; exact Heap.lt_size hTI
        · rw [q]; exact Heap.lt_size hTO
        · rw [q]; exact l1
        · rw [q]; exact l2
      rw [upd_ne (Nat.ne_of_lt hlt)]
      exact (hf b hb).1
  done := by
    intro X hP hw hK hc i pins s σ H E I hf st hg
    subst hP hw hK
    obtain ⟨hz, hTI, ⟨a1, a2, hTO⟩, h1, h2⟩ := st
    obtain ⟨its, rv, p, _⟩ := I.tuple hg.2.2.2
    have hlen := rv.length
    have D1 := Draws.text (prog := X.prog) (w := X.w) (A := X.A.in1) (I.ok.hd hc) i1 x t
    have D2 := Draws.tuple (prog := X.prog) (w := X.w) (A := X.A.in1) (I.ok.hd hc) i2 b hne its.toArray
    exact wpAny_pyNext_zipD2_end S D1 D2 hz hTI hTO h1 ⟨h2, (show s.heap.IsTuple b its.toArray from p)⟩ hg.1 (by rw [List.size_toArray, ← hlen]; exact hg.2.1) (by have h9 := hg.2.2.1; rw [hlen] at h9; exact h9) fun h' tk hk => ⟨rfl, I.turnedL (t' := tk) (ch := [z, TI, TO, i1, i2]) (fun c o hb q =>
      hk c o (fun q' => hb (by simp [q'])) (fun q' => hb (by simp [q'])) (fun q' => hb (by simp [q'])) (fun q' => hb (by simp [q'])) q) hf⟩
  self := fun A i s Q E st h => wpAny_pyIter_zip st.1 h
def iZipST (K : PySem.W.Frag) (ta : TA) : TI := fun σ H R => ta σ H fun vs H1 => ∃ x b ys, vs = [.str x, .ref b] ∧ SqT K H1 b ys ∧ R (Izst K x b ys) H1
theorem pi_zipST {X : Cx} {e e2 : Expr} {ta : TA} {p pos tpos : Pos} {elts : List Expr} {kk : Nat} (hg : Gl X "zip") (hm : X.mg "zip" = none) (ha : PA X [e, e2] ta)
    (hs : starEach [e, e2] X.env = (false, eval e X.env) :: starEach [e2] X.env := by rfl) (hpl : (backTo pos (starEach [e2] X.env)).any (·.1) = false := by rfl) :
    PI X (.Tuple elts kk tpos) (.Call (.Name "zip" p) [e, e2] [] pos) (iZipST X.K ta) := by
  refine ⟨fun pins s σ H R I h => ?_⟩
  refine Call_ (ld_blt I hg hm PyProof.Rows.boot_zip (PyProof.Rows.callWith_type1 (thn (ha.run pos pins s σ H _ I h) fun us s1 ⟨vs, H1, I1, r1, q1⟩ => ?_) hs hpl))
  obtain ⟨x, b, ys, ex, hb, q⟩ := q1
  subst ex
  cases r1 with
  | cons r rr =>
    cases rr with
    | cons r' rr =>
      cases rr
      obtain ⟨t, rfl⟩ := r
      cases r'
      obtain ⟨its, rv, p1, _⟩ := I1.tuple hb
      refine zip_begins2 (begins_text x t) (begins_tuple b its.toArray) trivial (show s1.heap.IsTuple b its.toArray from p1) fun h' hz hTI hTO g1 g2 hsz hk => wpAny_pyIter_zip hz ?_
      have I2 : Inv X pins σ H1 { s1 with heap := h' } := I1.kept (t' := s1.toks) hk
      have S := sep_nl s1.heap.objs.size b p1.lt
      refine ⟨s1.heap.objs.size + 4, [s1.heap.objs.size + 4, s1.heap.objs.size + 2, s1.heap.objs.size + 3, s1.heap.objs.size, s1.heap.objs.size + 1], _, _, H1, rfl, I2, turnZst x ys t _ _ _ _ _ b S (fun e => absurd (show (show Nat from b) = s1.heap.objs.size + 1 from e) (by have h9 : (show Nat from b) < s1.heap.objs.size := p1.lt; omega)), ⟨hz, hTI, ⟨_, _, hTO⟩, ⟨_, g1, rfl, rfl⟩, ⟨_, g2, rfl, rfl⟩⟩, fun c hcm => ?_, q⟩
      have hle : s1.heap.objs.size ≤ c := by
        rcases five_mem hcm with z | z | z | z | z
        · rw [z]; exact Nat.le_add_right _ _
        · rw [z]; exact Nat.le_add_right _ _
        · rw [z]; exact Nat.le_add_right _ _
        · rw [z]; exact Nat.le_refl _
        · rw [z]; exact Nat.le_add_right _ _
      exact I1.fpOk hle (I1.hok.fresh hle)
theorem walk_zst {x : Str} {b : Addr} {ys : List V} : Walk (Izst K x b ys) (min x.cps.size ys.length) (fun H => SqT K H b ys) (YPair (fun i => (x.cps.toList[i]?).map fun c => V.str ⟨#[c]⟩) (fun i => ys[i]?)) := by
  refine ⟨fun i _ hi q => ?_, fun _ q => ?_, fun i H v H' hi q y' => ?_⟩
  · exact ⟨by omega, by omega, q⟩
  · exact ⟨by omega, by omega, by omega, q⟩
  obtain ⟨T, c, d, h1, h2, h3, h4, h5⟩ := y'
  refine ⟨T, .str ⟨#[c]⟩, d, h1, h2, h3, ?_, h5⟩
  show Option.map _ (x.cps.toList[i]?) = _
  rw [Array.getElem?_toList, h4]
  rfl
end
/-! ### enumerate(text) -/
def Ies (x : Str) : It where
  go := fun i H => i < x.cps.size
  yld := fun i H v H' => ∃ T c, v = .ref T ∧ H T = none ∧ H' = upd H T (.tup [.int (i : Int), .str ⟨#[c]⟩]) ∧ x.cps[i]? = some c
  stop := fun i H => i = x.cps.size
section
variable {P : Program} {w : World} {K : PySem.W.Frag} {elts : List Expr} {kk : Nat} {tpos : Pos}
theorem turnEs (x : Str) (t : Tok) (e it : Addr) : Turn P w K (.Tuple elts kk tpos) (Ies x) [e, it] e
    (fun i h => (∃ old, IsEnum h e it ((i : Int)) old) ∧ h.IsStrIter it (strIterType x) x t i ∧ e ≠ it) where
  mem := List.mem_cons_self ..
  obj := fun i h st b hb => by
    obtain ⟨⟨old, he⟩, ⟨o, ho, _, hd⟩, _⟩ := st
    rcases two_mem hb with z | z
    · subst z
      exact ⟨_, he, fun v q => nomatch q⟩
    · subst z
      refine ⟨o, ho, fun v q => ?_⟩
      rw [hd] at q
      cases q
  keep := fun i h h' st kp => by
    obtain ⟨⟨old, he⟩, hi, r⟩ := st
    exact ⟨⟨old, kp e (by simp) _ he⟩, si_at hi fun o q => kp it (by simp) o q, r⟩
  item := by
    intro X hP hw hK hc i pins s σ H E I hf st hg
    subst hP hw hK
    obtain ⟨⟨old, he⟩, hit, hei⟩ := st
    have D := Draws.text (prog := X.prog) (w := X.w) (A := X.A.in1) (I.ok.hd hc) it x t
    have lte : e < s.heap.objs.size := Heap.lt_size he
    have lti : it < s.heap.objs.size := by
      obtain ⟨_, q, _⟩ := hit
      exact Heap.lt_size q
    refine wpAny_pyNext_enum_itemC D he hit hg hei (by simp [hei]) ?_
    intro y h' tk hy ho hst hT hsz keep
    obtain ⟨c, u, hcx, rfl⟩ := hy
    refine ⟨_, rfl, wpAny_letOwnedTupleGo_enum (s := { s with heap := h', toks := tk + 1 }) ho ?_⟩
    intro h2 he2 sb
    have t2 : h2.get? s.heap.objs.size = some { cls := .type "tuple", data := .seq #[.int ((i : Int)) tk, .str ⟨#[c]⟩ u] } := (sb.2 _ (Nat.ne_of_gt lte)).trans hT
    have new : ObjOk X.prog X.w (upd H s.heap.objs.size (.tup [.int ((i : Int)), .str ⟨#[c]⟩])) h2 s.heap.objs.size (.tup [.int ((i : Int)), .str ⟨#[c]⟩]) :=
      ⟨(by show 2 ≤ sizeLine; decide), [.int ((i : Int)) tk, .str ⟨#[c]⟩ u], .cons ⟨_, rfl⟩ (.cons ⟨_, rfl⟩ .nil), ⟨_, t2, rfl, _, rfl⟩⟩
    have I1 : Inv X pins σ (upd H s.heap.objs.size (.tup [.int ((i : Int)), .str ⟨#[c]⟩])) { s with heap := h2, toks := tk + 1 } := by
      refine I.turnedNew (ch := [e, it]) (fun b ob nb q => ?_) hf (Nat.le_refl _) new
      have n1 : b ≠ e := fun z => nb (by simp [z])
      have n2 : b ≠ it := fun z => nb (by simp [z])
      exact (sb.2 b n1).trans (keep b ob n1 n2 q)
    refine ⟨.ref s.heap.objs.size, _, I1, rfl, ⟨_, c, rfl, I.hok.fresh (Nat.le_refl _), rfl, hcx⟩, ⟨⟨.str ⟨#[c]⟩ u, ?_⟩, si_at hst fun o q => (sb.2 it (Ne.symm hei)).trans q, hei⟩, fun b hb => ?_⟩
    · have e1 : ((i + 1 : Nat) : Int) = (i : Int) + 1 := by omega
      rw [e1]
      exact he2
    · have lb : b < s.heap.objs.size := by
        rcases two_mem hb with z | z
        · rw [z]
          exact lte
        · rw [z]
          exact lti
      rw [upd_ne (Nat.ne_of_lt lb)]
      exact (hf b hb).1
  done := by
    intro X hP hw hK hc i pins s σ H E I hf st hg
    subst hP hw hK
    obtain ⟨⟨old, he⟩, hit, hei⟩ := st
    obtain ⟨f0, f1, f2, f3, f4, f5⟩ := hf it (by simp)
    have D := Draws.text (prog := X.prog) (w := X.w) (A := X.A.in1) (I.ok.hd hc) it x t
    have hg' : i = x.cps.size := hg
    subst hg'
    exact wpAny_pyNext_enum_endD D he hit fun h' eb => ⟨rfl, I.turned (t' := s.toks) (fun b o hb q => eb b o hb q) f0 f1 f3 f4 f5⟩
  self := fun A i s Q E st h => by
    obtain ⟨⟨_, he⟩, _⟩ := st
    exact wpAny_pyIter_enum he h
def iEnumS (ta : TA) : TI := fun σ H R => ta σ H fun vs H1 => ∃ x : Str, vs = [.str x] ∧ R (Ies x) H1
theorem pi_enumS {X : Cx} {e : Expr} {ta : TA} {p pos tpos : Pos} {elts : List Expr} {kk : Nat} (hg : Gl X "enumerate") (hm : X.mg "enumerate" = none) (ha : PA X [e] ta) (hs : starEach [e] X.env = [(false, eval e X.env)] := by rfl) :
    PI X (.Tuple elts kk tpos) (.Call (.Name "enumerate" p) [e] [] pos) (iEnumS ta) := by
  refine ⟨fun pins s σ H R I h => ?_⟩
  refine Call_ (ld_blt I hg hm boot_enumerate (PyProof.Rows.callWith_type1 (thn (ha.run pos pins s σ H _ I h) fun us s1 ⟨vs, H1, I1, r1, q1⟩ => ?_) hs rfl))
  obtain ⟨x, ex, q⟩ := q1
  subst ex
  cases r1 with
  | cons r rr =>
    cases rr
    obtain ⟨t, rfl⟩ := r
    refine call_enumerate_str fun h' he hit hsz hk => wpAny_pyIter_enum he ?_
    have I2 : Inv X pins σ H1 { s1 with heap := h' } := I1.kept (t' := s1.toks) hk
    refine ⟨s1.heap.objs.size + 1, [s1.heap.objs.size + 1, s1.heap.objs.size], _, _, H1, rfl, I2, turnEs x t (s1.heap.objs.size + 1) s1.heap.objs.size, ⟨⟨.none, he⟩, hit, Nat.succ_ne_self _⟩, fun b hb => ?_, q⟩
    have hle : s1.heap.objs.size ≤ b := by
      rcases two_mem hb with z | z
      · rw [z]; exact Nat.le_add_right _ _
      · rw [z]; exact Nat.le_refl _
    exact I1.fpOk hle (I1.hok.fresh hle)
/-- {letter: place for place, letter in enumerate(text)}: letters all different or not, the last place counts -/
def plcN (l : List Nat) (n : Nat) : List (Key × V) := (List.range n).foldl (fun kvs i => putK kvs (Sum.inr (SX.S [l.getD i 0])) (.int (i : Int))) []
theorem plcN_succ (l : List Nat) (n : Nat) : plcN l (n + 1) = putK (plcN l n) (Sum.inr (SX.S [l.getD n 0])) (.int (n : Int)) := by
  unfold plcN
  rw [List.range_succ, List.foldl_append]
  rfl
theorem plcN_len (l : List Nat) : ∀ n, (plcN l n).length ≤ n
  | 0 => Nat.le_refl 0
  | n + 1 => by
    rw [plcN_succ]
    have := length_putK (plcN l n) (Sum.inr (SX.S [l.getD n 0])) (.int (n : Int))
    have := plcN_len l n
    omega
/-- in a text of different letters each letter has its place -/
theorem plcN_at {l : List Nat} (nd : l.Nodup) : ∀ n i, i < n → n ≤ l.length → valV (plcN l n) (Sum.inr (SX.S [l.getD i 0])) = some (.int (i : Int))
  | 0, i, h, _ => absurd h (Nat.not_lt_zero _)
  | n + 1, i, h, hn => by
    rw [plcN_succ, valV_put]
    by_cases c : i = n
    · subst c
      rw [if_pos rfl]
    · rw [if_neg fun e => c ?_]
      · exact plcN_at nd n i (by omega) (by omega)
      · have e1 : [l.getD i 0] = [l.getD n 0] := SX.S_inj (Sum.inr.inj e)
        have e2 : l.getD i 0 = l.getD n 0 := (List.cons.inj e1).1
        rw [List.getD_eq_getElem?_getD, List.getD_eq_getElem?_getD, List.getElem?_eq_getElem (by omega), List.getElem?_eq_getElem (by omega)] at e2
        exact absurd e2 (List.pairwise_iff_getElem.mp nd i n (by omega) (by omega) (by omega))
/-- the dict of places is made -/
theorem ev_places {σ : L2.St} {H : Hp} {D : Ends} {tz : TS} {ta : TE} {l : List Nat} {i0 j1 j2 : Nat} {vs : List Nat} (h : Ev ta σ H (tx l)) (hz : l.length ≤ 1000) (hw : ∀ a b, wipe (((wipe σ vs).set j1 (some a)).set j2 (some b)) vs = wipe σ vs)
    (h1 : ∀ a b : V, (((wipe σ vs).set j1 (some a)).set j2 (some b))[j1]? = some (some a)) (h2 : ∀ a b : V, (((wipe σ vs).set j1 (some a)).set j2 (some b))[j2]? = some (some b))
    (k : ∀ d H1, H d = none → Ex H H1 → H1 d = some (.dK (plcN l l.length)) → tz D (σ.set i0 (some (.ref d))) H1) :
    tSeq (tAsg (tDc (iEnumS (tCons ta tNil)) (gTup K 2 (gCons (gName j1) (gCons (gName j2) gNil))) tYes (tVar j2) (tVar j1) vs) (gName i0)) tz D σ H := by
  refine h H (Ex.refl H) _ fun H1 e1 => ⟨SX.S l, rfl, fun d hd => ?_⟩
  have hd0 : H d = none := fresh_back e1 hd
  have hsz : (SX.S l).cps.size = l.length := by
    show l.toArray.size = _
    simp
  refine ⟨fun i m H' => m = l.length - i ∧ i ≤ l.length ∧ Ex H H' ∧ H' d = some (.dK (plcN l i)), ⟨l.length, by simp, Nat.zero_le _, e1.trans (Ex.new hd), upd_same⟩, ?_⟩
  rintro i m H' ⟨rfl, hi, e2, g2⟩
  by_cases hlt : i < l.length
  · refine .inr ⟨by show i < (SX.S l).cps.size; omega, fun H' => Ex H H' ∧ H' d = some (.dK (plcN l (i + 1))), fun H' p => ⟨l.length - (i + 1), by omega, rfl, hlt, p.1, p.2⟩, fun x H3 y => ?_⟩
    obtain ⟨T, c, rfl, hT, rfl, hc⟩ := y
    have hc2 : l[i]? = some c := by
      have h3 : l.toArray[i]? = some c := hc
      simpa using h3
    have ec : l.getD i 0 = c := by
      rw [List.getD_eq_getElem?_getD, hc2]
      rfl
    have e3 : Ex H' (L2.upd H' T (.tup [.int (i : Int), .str ⟨#[c]⟩])) := Ex.new hT
    refine ⟨T, [.int (i : Int), .str ⟨#[c]⟩], rfl, st_of upd_same, rfl, _, _, rfl, _, _, rfl, rfl, hw _ _, ?_⟩
    refine (show EvT tYes _ _ true from et_yes) _ (Ex.refl _) _ fun H4 e4 => ?_
    rw [if_pos rfl]
    refine ev_var (h2 _ _) H4 (Ex.refl H4) _ fun H5 e5 => ev_var (h1 _ _) H5 (Ex.refl H5) _ fun H6 e6 => ?_
    have g6 := e6 _ _ (e5 _ _ (e4 _ _ (e3 _ _ g2)))
    refine ⟨_, Sum.inr ⟨#[c]⟩, rfl, g6, sz_lt (by have := plcN_len l i; omega), (e2.trans (((e3.trans e4).trans e5).trans e6)).mut hd0, ?_⟩
    rw [plcN_succ, ec]
    exact upd_same
  · have e : i = l.length := by omega
    subst e
    exact .inl ⟨hsz.symm, k d H' hd0 e2 g2⟩
end
end Ver
namespace Ver
open PySem PySem.Spec PyProof.Rows L2 Evl
def top (i : Nat) : Stmt := PySem.Challenge.pw_outpressed_k55_lead_loop_judged.main.body.getD i (.Pass ⟨0, 0, 0, 0⟩)
abbrev s_BadLetter___init__ : Stmt := inClass (top 3) 0
abbrev N_BadLetter___init__ : List Str := ["self", "index"]
theorem S_BadLetter___init__ : FnScope N_BadLetter___init__ ["self", "index"] (defScope s_BadLetter___init__) := ⟨rfl, rfl, rfl, by decide +kernel, rfl, by decide +kernel, by decide +kernel⟩
abbrev s_AlphabetsDiffer___init__ : Stmt := inClass (top 6) 0
abbrev N_AlphabetsDiffer___init__ : List Str := ["self", "one", "two"]
theorem S_AlphabetsDiffer___init__ : FnScope N_AlphabetsDiffer___init__ ["self", "one", "two"] (defScope s_AlphabetsDiffer___init__) := ⟨rfl, rfl, rfl, by decide +kernel, rfl, by decide +kernel, by decide +kernel⟩
abbrev s_is_alphabet : Stmt := top 10
abbrev N_is_alphabet : List Str := ["string", "one", "two"]
theorem S_is_alphabet : FnScope N_is_alphabet ["string"] (defScope s_is_alphabet) := ⟨rfl, rfl, rfl, by decide +kernel, rfl, by decide +kernel, by decide +kernel⟩
abbrev s_check_alphabet : Stmt := top 11
abbrev N_check_alphabet : List Str := ["alphabet"]
theorem S_check_alphabet : FnScope N_check_alphabet ["alphabet"] (defScope s_check_alphabet) := ⟨rfl, rfl, rfl, by decide +kernel, rfl, by decide +kernel, by decide +kernel⟩
abbrev s_check_text : Stmt := top 12
abbrev N_check_text : List Str := ["alphabet", "text", "rest"]
theorem S_check_text : FnScope N_check_text ["alphabet", "text"] (defScope s_check_text) := ⟨rfl, rfl, rfl, by decide +kernel, rfl, by decide +kernel, by decide +kernel⟩
abbrev s_check_same_alphabet : Stmt := top 13
abbrev N_check_same_alphabet : List Str := ["one", "two"]
theorem S_check_same_alphabet : FnScope N_check_same_alphabet ["one", "two"] (defScope s_check_same_alphabet) := ⟨rfl, rfl, rfl, by decide +kernel, rfl, by decide +kernel, by decide +kernel⟩
abbrev s_is_whole : Stmt := top 15
abbrev N_is_whole : List Str := ["value"]
theorem S_is_whole : FnScope N_is_whole ["value"] (defScope s_is_whole) := ⟨rfl, rfl, rfl, by decide +kernel, rfl, by decide +kernel, by decide +kernel⟩
abbrev s_is_number_below : Stmt := top 16
abbrev N_is_number_below : List Str := ["value", "many"]
theorem S_is_number_below : FnScope N_is_number_below ["value", "many"] (defScope s_is_number_below) := ⟨rfl, rfl, rfl, by decide +kernel, rfl, by decide +kernel, by decide +kernel⟩
abbrev s_is_bits : Stmt := top 17
abbrev N_is_bits : List Str := ["value"]
theorem S_is_bits : FnScope N_is_bits ["value"] (defScope s_is_bits) := ⟨rfl, rfl, rfl, by decide +kernel, rfl, by decide +kernel, by decide +kernel⟩
abbrev s_as_tuples : Stmt := top 18
abbrev N_as_tuples : List Str := ["value", "item"]
theorem S_as_tuples : FnScope N_as_tuples ["value"] (defScope s_as_tuples) := ⟨rfl, rfl, rfl, by decide +kernel, rfl, by decide +kernel, by decide +kernel⟩
abbrev s_first_of_classes : Stmt := top 20
abbrev N_first_of_classes : List Str := ["classes", "nexts", "order", "found", "at", "standing", "following"]
theorem S_first_of_classes : FnScope N_first_of_classes ["classes", "nexts"] (defScope s_first_of_classes) := ⟨rfl, rfl, rfl, by decide +kernel, rfl, by decide +kernel, by decide +kernel⟩
abbrev s_reached_in : Stmt := top 21
abbrev N_reached_in : List Str := ["nexts"]
theorem S_reached_in : FnScope N_reached_in ["nexts"] (defScope s_reached_in) := ⟨rfl, rfl, rfl, by decide +kernel, rfl, by decide +kernel, by decide +kernel⟩
abbrev s_width : Stmt := top 23
abbrev N_width : List Str := ["options"]
theorem S_width : FnScope N_width ["options"] (defScope s_width) := ⟨rfl, rfl, rfl, by decide +kernel, rfl, by decide +kernel, by decide +kernel⟩
abbrev s_number_bits : Stmt := top 24
abbrev N_number_bits : List Str := ["number", "options", "bits", "digits"]
theorem S_number_bits : FnScope N_number_bits ["number", "options"] (defScope s_number_bits) := ⟨rfl, rfl, rfl, by decide +kernel, rfl, by decide +kernel, by decide +kernel⟩
abbrev s_index_words : Stmt := top 25
abbrev N_index_words : List Str := ["many", "options", "index"]
theorem S_index_words : FnScope N_index_words ["many"] (defScope s_index_words) := ⟨rfl, rfl, rfl, by decide +kernel, rfl, by decide +kernel, by decide +kernel⟩
abbrev s_Machine___init__ : Stmt := inClass (top 27) 0
abbrev N_Machine___init__ : List Str := ["self", "alphabet", "rules", "kept"]
theorem S_Machine___init__ : FnScope N_Machine___init__ ["self", "alphabet", "rules"] (defScope s_Machine___init__) := ⟨rfl, rfl, rfl, by decide +kernel, rfl, by decide +kernel, by decide +kernel⟩
abbrev s_Machine_plain : Stmt := inClass (top 27) 1
abbrev N_Machine_plain : List Str := ["alphabet", "word"]
theorem S_Machine_plain : FnScope N_Machine_plain ["alphabet"] (defScope s_Machine_plain) := ⟨rfl, rfl, rfl, by decide +kernel, rfl, by decide +kernel, by decide +kernel⟩
abbrev s_Machine_run : Stmt := inClass (top 27) 2
abbrev N_Machine_run : List Str := ["self", "text", "start"]
theorem S_Machine_run : FnScope N_Machine_run ["self", "text", "start"] (defScope s_Machine_run) := ⟨rfl, rfl, rfl, by decide +kernel, rfl, by decide +kernel, by decide +kernel⟩
abbrev s_Machine_last_after : Stmt := inClass (top 27) 3
abbrev N_Machine_last_after : List Str := ["self", "text"]
theorem S_Machine_last_after : FnScope N_Machine_last_after ["self", "text"] (defScope s_Machine_last_after) := ⟨rfl, rfl, rfl, by decide +kernel, rfl, by decide +kernel, by decide +kernel⟩
abbrev s_check_rules : Stmt := top 28
abbrev N_check_rules : List Str := ["alphabet", "rules", "standing", "row", "letter", "following", "word"]
theorem S_check_rules : FnScope N_check_rules ["alphabet", "rules"] (defScope s_check_rules) := ⟨rfl, rfl, rfl, by decide +kernel, rfl, by decide +kernel, by decide +kernel⟩
abbrev s_check_row_lengths : Stmt := top 29
abbrev N_check_row_lengths : List Str := ["alphabet", "rows", "standing", "row"]
theorem S_check_row_lengths : FnScope N_check_row_lengths ["alphabet", "rows"] (defScope s_check_row_lengths) := ⟨rfl, rfl, rfl, by decide +kernel, rfl, by decide +kernel, by decide +kernel⟩
abbrev s_nexts_of : Stmt := top 30
abbrev N_nexts_of : List Str := ["rules", "row", "rule"]
theorem S_nexts_of : FnScope N_nexts_of ["rules"] (defScope s_nexts_of) := ⟨rfl, rfl, rfl, by decide +kernel, rfl, by decide +kernel, by decide +kernel⟩
abbrev s_written_by : Stmt := top 31
abbrev N_written_by : List Str := ["rules", "alphabet", "text", "start", "letter", "places", "words", "standing", "word", "place"]
theorem S_written_by : FnScope N_written_by ["rules", "alphabet", "text", "start"] (defScope s_written_by) := ⟨rfl, rfl, rfl, by decide +kernel, rfl, by decide +kernel, by decide +kernel⟩
abbrev s_is_lead_loop : Stmt := top 34
abbrev N_is_lead_loop : List Str := ["one", "two", "begin", "loop", "first", "second", "more", "ahead", "less", "behind"]
theorem S_is_lead_loop : FnScope N_is_lead_loop ["one", "two", "begin", "loop"] (defScope s_is_lead_loop) := ⟨rfl, rfl, rfl, by decide +kernel, rfl, by decide +kernel, by decide +kernel⟩
abbrev s__law_whole : Stmt := top 36
abbrev N__law_whole : List Str := ["value"]
theorem S__law_whole : FnScope N__law_whole ["value"] (defScope s__law_whole) := ⟨rfl, rfl, rfl, by decide +kernel, rfl, by decide +kernel, by decide +kernel⟩
abbrev s__law_cell : Stmt := top 37
abbrev N__law_cell : List Str := ["script", "k", "seed", "cell"]
theorem S__law_cell : FnScope N__law_cell ["script", "k"] (defScope s__law_cell) := ⟨rfl, rfl, rfl, by decide +kernel, rfl, by decide +kernel, by decide +kernel⟩
abbrev s__law_digits : Stmt := top 38
abbrev N__law_digits : List Str := ["cell", "sizes", "row", "rest", "size", "seed", "k", "twice"]
theorem S__law_digits : FnScope N__law_digits ["cell", "sizes"] (defScope s__law_digits) := ⟨rfl, rfl, rfl, by decide +kernel, rfl, by decide +kernel, by decide +kernel⟩
abbrev s__law_alphabet : Stmt := top 39
abbrev N__law_alphabet : List Str := ["row", "many", "letters", "taken", "k", "at", "turn"]
theorem S__law_alphabet : FnScope N__law_alphabet ["row"] (defScope s__law_alphabet) := ⟨rfl, rfl, rfl, by decide +kernel, rfl, by decide +kernel, by decide +kernel⟩
abbrev s__law_other_alphabet : Stmt := top 40
abbrev N__law_other_alphabet : List Str := ["alphabet", "kind", "letters", "left", "more", "letter"]
theorem S__law_other_alphabet : FnScope N__law_other_alphabet ["alphabet", "kind"] (defScope s__law_other_alphabet) := ⟨rfl, rfl, rfl, by decide +kernel, rfl, by decide +kernel, by decide +kernel⟩
abbrev s__law_width : Stmt := top 41
abbrev N__law_width : List Str := ["options"]
theorem S__law_width : FnScope N__law_width ["options"] (defScope s__law_width) := ⟨rfl, rfl, rfl, by decide +kernel, rfl, by decide +kernel, by decide +kernel⟩
abbrev s__law_number : Stmt := top 42
abbrev N__law_number : List Str := ["number", "options", "bits", "rest", "k"]
theorem S__law_number : FnScope N__law_number ["number", "options"] (defScope s__law_number) := ⟨rfl, rfl, rfl, by decide +kernel, rfl, by decide +kernel, by decide +kernel⟩
abbrev s__law_code : Stmt := top 43
abbrev N__law_code : List Str := ["many", "row", "leaves", "k", "at", "leaf", "turn"]
theorem S__law_code : FnScope N__law_code ["many", "row"] (defScope s__law_code) := ⟨rfl, rfl, rfl, by decide +kernel, rfl, by decide +kernel, by decide +kernel⟩
abbrev s__law_ring_rules : Stmt := top 44
abbrev N__law_ring_rules : List Str := ["size", "row", "many", "rules", "s", "part", "code", "k"]
theorem S__law_ring_rules : FnScope N__law_ring_rules ["size", "row", "many"] (defScope s__law_ring_rules) := ⟨rfl, rfl, rfl, by decide +kernel, rfl, by decide +kernel, by decide +kernel⟩
abbrev s__law_free_rules : Stmt := top 45
abbrev N__law_free_rules : List Str := ["size", "row", "many", "words", "rules", "s", "part", "k"]
theorem S__law_free_rules : FnScope N__law_free_rules ["size", "row", "many"] (defScope s__law_free_rules) := ⟨rfl, rfl, rfl, by decide +kernel, rfl, by decide +kernel, by decide +kernel⟩
abbrev s__law_holding_rules : Stmt := top 46
abbrev N__law_holding_rules : List Str := ["size", "row", "code", "rules", "s", "k"]
theorem S__law_holding_rules : FnScope N__law_holding_rules ["size", "row"] (defScope s__law_holding_rules) := ⟨rfl, rfl, rfl, by decide +kernel, rfl, by decide +kernel, by decide +kernel⟩
abbrev s__law_grouped_rules : Stmt := top 47
abbrev N__law_grouped_rules : List Str := ["size", "group", "texts", "opening", "turn", "level", "text", "k", "options", "rules", "value"]
theorem S__law_grouped_rules : FnScope N__law_grouped_rules ["size", "group"] (defScope s__law_grouped_rules) := ⟨rfl, rfl, rfl, by decide +kernel, rfl, by decide +kernel, by decide +kernel⟩
abbrev s__law_some_rules : Stmt := top 48
abbrev N__law_some_rules : List Str := ["size", "row", "rest", "rules", "last"]
theorem S__law_some_rules : FnScope N__law_some_rules ["size", "row"] (defScope s__law_some_rules) := ⟨rfl, rfl, rfl, by decide +kernel, rfl, by decide +kernel, by decide +kernel⟩
abbrev s__law_bits : Stmt := top 49
abbrev N__law_bits : List Str := ["wide", "seed", "k"]
theorem S__law_bits : FnScope N__law_bits ["wide", "seed"] (defScope s__law_bits) := ⟨rfl, rfl, rfl, by decide +kernel, rfl, by decide +kernel, by decide +kernel⟩
abbrev s__law_balanced_rules : Stmt := top 50
abbrev N__law_balanced_rules : List Str := ["size", "row", "many", "s", "heights", "this", "that", "first", "second", "k", "digit", "after", "wide", "more"]
theorem S__law_balanced_rules : FnScope N__law_balanced_rules ["size", "row"] (defScope s__law_balanced_rules) := ⟨rfl, rfl, rfl, by decide +kernel, rfl, by decide +kernel, by decide +kernel⟩
abbrev s__law_burst_rules : Stmt := top 51
abbrev N__law_burst_rules : List Str := ["size", "many", "bits", "at", "rules", "s", "wide", "k"]
theorem S__law_burst_rules : FnScope N__law_burst_rules ["size", "many", "bits", "at"] (defScope s__law_burst_rules) := ⟨rfl, rfl, rfl, by decide +kernel, rfl, by decide +kernel, by decide +kernel⟩
abbrev s__law_two_rules : Stmt := top 52
abbrev N__law_two_rules : List Str := ["size", "row", "kind", "rest", "wide", "most", "many", "more", "first", "code", "this", "turned", "rules", "word", "rule", "bit"]
theorem S__law_two_rules : FnScope N__law_two_rules ["size", "row"] (defScope s__law_two_rules) := ⟨rfl, rfl, rfl, by decide +kernel, rfl, by decide +kernel, by decide +kernel⟩
abbrev s__law_race : Stmt := top 53
abbrev N__law_race : List Str := ["alphabet", "this", "that", "text", "opening", "lead", "pair", "letter", "k"]
theorem S__law_race : FnScope N__law_race ["alphabet", "this", "that", "text", "opening"] (defScope s__law_race) := ⟨rfl, rfl, rfl, by decide +kernel, rfl, by decide +kernel, by decide +kernel⟩
abbrev s__law_slow_rules : Stmt := top 54
abbrev N__law_slow_rules : List Str := ["size", "many", "at", "rules", "s", "word", "k"]
theorem S__law_slow_rules : FnScope N__law_slow_rules ["size", "many", "at"] (defScope s__law_slow_rules) := ⟨rfl, rfl, rfl, by decide +kernel, rfl, by decide +kernel, by decide +kernel⟩
abbrev s__law_loop : Stmt := top 55
abbrev N__law_loop : List Str := ["alphabet", "this", "that", "opening", "word", "which", "met", "pair", "turn", "key", "texts"]
theorem S__law_loop : FnScope N__law_loop ["alphabet", "this", "that", "opening", "word", "which"] (defScope s__law_loop) := ⟨rfl, rfl, rfl, by decide +kernel, rfl, by decide +kernel, by decide +kernel⟩
abbrev s__law_due : Stmt := top 56
abbrev N__law_due : List Str := ["alphabet", "this", "that", "opening", "circle", "pair", "once"]
theorem S__law_due : FnScope N__law_due ["alphabet", "this", "that", "opening", "circle"] (defScope s__law_due) := ⟨rfl, rfl, rfl, by decide +kernel, rfl, by decide +kernel, by decide +kernel⟩
abbrev s__law_cases : Stmt := top 57
abbrev N__law_cases : List Str := ["opening", "circle", "letter", "cases", "case"]
theorem S__law_cases : FnScope N__law_cases ["opening", "circle", "letter"] (defScope s__law_cases) := ⟨rfl, rfl, rfl, by decide +kernel, rfl, by decide +kernel, by decide +kernel⟩
abbrev s__law_told : Stmt := top 58
abbrev N__law_told : List Str := ["this", "that", "opening", "circle", "answer", "e"]
theorem S__law_told : FnScope N__law_told ["this", "that", "opening", "circle"] (defScope s__law_told) := ⟨rfl, rfl, rfl, by decide +kernel, rfl, by decide +kernel, by decide +kernel⟩
abbrev s__law_fits : Stmt := top 59
abbrev N__law_fits : List Str := ["alphabet", "machines", "this", "that", "cases", "case", "due"]
theorem S__law_fits : FnScope N__law_fits ["alphabet", "machines", "this", "that", "cases"] (defScope s__law_fits) := ⟨rfl, rfl, rfl, by decide +kernel, rfl, by decide +kernel, by decide +kernel⟩
abbrev s__law_all_cases : Stmt := top 60
abbrev N__law_all_cases : List Str := ["alphabet", "this", "that", "opening", "word", "letter", "cases", "which", "made"]
theorem S__law_all_cases : FnScope N__law_all_cases ["alphabet", "this", "that", "opening", "word", "letter"] (defScope s__law_all_cases) := ⟨rfl, rfl, rfl, by decide +kernel, rfl, by decide +kernel, by decide +kernel⟩
abbrev s__law_spoilt : Stmt := top 61
abbrev N__law_spoilt : List Str := ["alphabet", "text", "row", "signs", "at", "spoilt", "sign"]
theorem S__law_spoilt : FnScope N__law_spoilt ["alphabet", "text", "row"] (defScope s__law_spoilt) := ⟨rfl, rfl, rfl, by decide +kernel, rfl, by decide +kernel, by decide +kernel⟩
abbrev s__law_letters_fit : Stmt := top 62
abbrev N__law_letters_fit : List Str := ["alphabet", "machines", "opening", "circle", "row", "bad", "worse", "case", "told", "other", "foreign"]
theorem S__law_letters_fit : FnScope N__law_letters_fit ["alphabet", "machines", "opening", "circle", "row"] (defScope s__law_letters_fit) := ⟨rfl, rfl, rfl, by decide +kernel, rfl, by decide +kernel, by decide +kernel⟩
abbrev s_law : Stmt := top 63
abbrev N_law : List Str := ["script", "alphabet", "size", "made", "row", "free", "opening", "word", "letter", "machines", "cases", "quick", "slow", "rings", "round_trip", "k"]
theorem S_law : FnScope N_law ["script"] (defScope s_law) := ⟨rfl, rfl, rfl, by decide +kernel, rfl, by decide +kernel, by decide +kernel⟩
structure Top (K : PySem.W.Frag) (mg : Str → Option Value) (C_Machine : Addr) : Prop where
  z_ValueError : mg "ValueError" = none
  z_all : mg "all" = none
  z_bool : mg "bool" = none
  z_enumerate : mg "enumerate" = none
  z_int : mg "int" = none
  z_isinstance : mg "isinstance" = none
  z_len : mg "len" = none
  z_list : mg "list" = none
  z_max : mg "max" = none
  z_min : mg "min" = none
  z_range : mg "range" = none
  z_sorted : mg "sorted" = none
  z_str : mg "str" = none
  z_tuple : mg "tuple" = none
  z_zip : mg "zip" = none
  c_Machine : mg "Machine" = some (.ref C_Machine)
  cl_Machine : Cls K C_Machine
  cr_Machine : ClX.CRead K C_Machine (.type "type")
  n_Machine_alphabet : NoAttr K C_Machine "alphabet"
  n_Machine_rules : NoAttr K C_Machine "rules"
  n_Machine_standings : NoAttr K C_Machine "standings"
  n_Machine_reached : NoAttr K C_Machine "reached"
  g_LETTERS : ∃ t, mg "LETTERS" = some (.str (Str.ofString "0123456789abcdefghijklmnopqrstuvwxyz") t)
  g_MOST_LETTERS : ∃ t, mg "MOST_LETTERS" = some (.int 6 t)
structure ETop (K : PySem.W.Frag) (mg : Str → Option Value) (C_PressError : Addr) (C_BadAlphabet : Addr) (C_BadLetter : Addr) (C_BadStanding : Addr) (C_BadRule : Addr) (C_AlphabetsDiffer : Addr) : Prop where
  c_PressError : mg "PressError" = some (.ref C_PressError)
  c_BadAlphabet : mg "BadAlphabet" = some (.ref C_BadAlphabet)
  c_BadLetter : mg "BadLetter" = some (.ref C_BadLetter)
  c_BadStanding : mg "BadStanding" = some (.ref C_BadStanding)
  c_BadRule : mg "BadRule" = some (.ref C_BadRule)
  c_AlphabetsDiffer : mg "AlphabetsDiffer" = some (.ref C_AlphabetsDiffer)
  nf_BadLetter_index : PySem.W.findIn K (.ref C_BadLetter) "index" = some none
  kt_BadLetter_PressError : PySem.W.kitOne K (.ref C_BadLetter) (.ref C_PressError) = some true
  kt_BadLetter_BadAlphabet : PySem.W.kitOne K (.ref C_BadLetter) (.ref C_BadAlphabet) = some false
  kt_BadLetter_BadLetter : PySem.W.kitOne K (.ref C_BadLetter) (.ref C_BadLetter) = some true
  kt_BadLetter_BadStanding : PySem.W.kitOne K (.ref C_BadLetter) (.ref C_BadStanding) = some false
  kt_BadLetter_BadRule : PySem.W.kitOne K (.ref C_BadLetter) (.ref C_BadRule) = some false
  kt_BadLetter_AlphabetsDiffer : PySem.W.kitOne K (.ref C_BadLetter) (.ref C_AlphabetsDiffer) = some false
  kt_BadLetter_VE : PySem.W.kitOne K (.ref C_BadLetter) (.type "ValueError") = some true
  ex_BadLetter_PressError : PySem.W.exmOne K (.ref C_BadLetter) (.ref C_PressError) = some true
  nf_AlphabetsDiffer_one : PySem.W.findIn K (.ref C_AlphabetsDiffer) "one" = some none
  nf_AlphabetsDiffer_two : PySem.W.findIn K (.ref C_AlphabetsDiffer) "two" = some none
  kt_AlphabetsDiffer_PressError : PySem.W.kitOne K (.ref C_AlphabetsDiffer) (.ref C_PressError) = some true
  kt_AlphabetsDiffer_BadAlphabet : PySem.W.kitOne K (.ref C_AlphabetsDiffer) (.ref C_BadAlphabet) = some false
  kt_AlphabetsDiffer_BadLetter : PySem.W.kitOne K (.ref C_AlphabetsDiffer) (.ref C_BadLetter) = some false
  kt_AlphabetsDiffer_BadStanding : PySem.W.kitOne K (.ref C_AlphabetsDiffer) (.ref C_BadStanding) = some false
  kt_AlphabetsDiffer_BadRule : PySem.W.kitOne K (.ref C_AlphabetsDiffer) (.ref C_BadRule) = some false
  kt_AlphabetsDiffer_AlphabetsDiffer : PySem.W.kitOne K (.ref C_AlphabetsDiffer) (.ref C_AlphabetsDiffer) = some true
  kt_AlphabetsDiffer_VE : PySem.W.kitOne K (.ref C_AlphabetsDiffer) (.type "ValueError") = some true
  ex_AlphabetsDiffer_PressError : PySem.W.exmOne K (.ref C_AlphabetsDiffer) (.ref C_PressError) = some true
end Ver
namespace Ver
open PySem PySem.Spec PyProof.Rows L2 Evl
section
variable {P : Program} {w : World} {K : PySem.W.Frag} {mg : Str → Option Value} {base : Heap} {C_Machine : Addr}
theorem has_digits (F : At K mg "_law_digits" s__law_digits) (T : Top K mg C_Machine) : Has P w K mg base "_law_digits" s__law_digits ["cell", "sizes"] 1 (spDigits K) := by
  obtain ⟨f, fd, F, m⟩ := F.ex
  refine ⟨f, fd, F, F.ok S__law_digits (fun vs H Q E h => ?_) (fun cdv A outer s H vs Q E hr h => ?_), F.binds fun _ _ _ _ _ _ us hl => match us, hl with | [_, _], _ => rfl, m, F.kp⟩
  · obtain ⟨c, a, ss, rfl, _⟩ := h
    rfl
  obtain ⟨c, a, ss, rfl, hS, hz, hss, q⟩ := h
  refine ⟨_, (pss_cons
    (ps_set (i := 2) S__law_digits.nd rfl (Or.inl rfl) (pe_lst pa_nil))
    (pss_cons
    (ps_set (i := 3) S__law_digits.nd rfl (Or.inl rfl) (pe_callTy call_int1 rfl T.z_int (by decide +kernel) (pa_cons (pv 0) pa_nil)))
    (pss_cons
    (ps_if (pt_cmpR op_ge (pv 3) (pe_op op_pow pe_int pe_int) (nomark _)) (pss_cons
    (ps_set (i := 3) S__law_digits.nd rfl (Or.inl rfl) (pe_op op_sub (pv 3) (pe_op op_pow pe_int pe_int)))
    (pss_cons
    (ps_for PassesOwn.never rfl (pi_list (pv 1)) (pg_name (i := 4) S__law_digits.nd rfl (Or.inl rfl)) (pss_cons
    (ps_expr (pe_bm PySem.F.plainAttrs_list PySem.F.slot_list_append PySem.F.type_list_append mt_append (pv 2) (pa_cons (pe_op op_mod (pe_callTy call_int1 rfl T.z_int (by decide +kernel) (pa_cons (pv 3) pa_nil)) (pv 4)) pa_nil)))
    (pss_one
    (ps_set (i := 3) S__law_digits.nd rfl (Or.inl rfl) (pe_op op_fdivW (pe_callTy call_int1 rfl T.z_int (by decide +kernel) (pa_cons (pv 3) pa_nil)) (pv 4))))))
    (pss_one
    (ps_ret (pv 2))))) pss_nil)
    (pss_cons
    (ps_set (i := 5) S__law_digits.nd rfl (Or.inl rfl) (pe_op op_mod (pe_callTy call_int1 rfl T.z_int (by decide +kernel) (pa_cons (pv 3) pa_nil)) pe_int))
    (pss_cons
    (ps_for PassesOwn.never rfl (pi_range1 rfl T.z_range (pa_cons (pe_callB call_len_seq rfl T.z_len PySem.boot_len (pa_cons (pv 1) pa_nil)) pa_nil)) (pg_name (i := 6) S__law_digits.nd rfl (Or.inl rfl)) (pss_cons
    (ps_set (i := 5) S__law_digits.nd rfl (Or.inl rfl) (pe_op op_mod (pe_callTy call_int1 rfl T.z_int (by decide +kernel) (pa_cons (pe_op op_add (pe_op op_add (pe_op op_mul (pv 5) pe_int) (pe_op op_mul pe_int (pv 6))) pe_int) pa_nil)) pe_int))
    (pss_cons
    (ps_set (i := 7) S__law_digits.nd rfl (Or.inl rfl) (pe_op op_mod (pe_callTy call_int1 rfl T.z_int (by decide +kernel) (pa_cons (pe_op op_mul (pv 5) (pe_op op_add (pe_op op_fdivW (pv 5) pe_int) pe_int)) pa_nil)) pe_int))
    (pss_one
    (ps_expr (pe_bm PySem.F.plainAttrs_list PySem.F.slot_list_append PySem.F.type_list_append mt_append (pv 2) (pa_cons (pe_op op_mod (pe_op op_fdivW (pv 7) pe_int) (pe_ix (r := rIxL K) ix_list (pv 1) (pv 6) (fun _ _ => rfl))) pa_nil)))))))
    (pss_one
    (ps_ret (pv 2)))))))), ?_⟩
  have hl : (((ss.map V.int).length : Nat) : Int) = (ss.length : Int) := by rw [List.length_map]
  have e18 : (10 : Int) ^ (18 : Int).toNat = 10 ^ 18 := rfl
  refine q_asgL (el_lst ea_nil (by decide)) fun p H1 hp e1 h1 => ?_
  refine q_asg (ev_int (ev_var rfl)) fun H2 e2 => ?_
  have hP : CPow 10 18 := ⟨by decide, by decide, by decide⟩
  refine q_when (et_is (et_ge (ev_var rfl) (ev_op ev_c ev_c (rv_I hP))) rfl) (fun hb H3 e3 => ?_) (fun hb H3 e3 => ?_)
  · have hc : 10 ^ 18 ≤ c := of_decide_eq_true hb
    refine q_asg (ev_sub (ev_var rfl) (ev_op ev_c ev_c (rv_I hP))) fun H4 e4 => ?_
    have e14 : Ex H H4 := ((e1.trans e2).trans e3).trans e4
    refine q_forLn (ev_var rfl) (ex_l e14 hS) (fun i σ' H' => (∃ u, σ' = [some (.int c), some (.ref a), some (.ref p), some (.int (restF c ss i)), u, none, none, none]) ∧ Ex H H' ∧ H' p = some (.lst (((List.range i).map (digA c ss)).map V.int))) ?_ ?_ ?_ ?_
    · intro H5 e5
      exact ⟨⟨none, rfl⟩, e14.trans e5, e5 _ _ (e4 _ _ (e3 _ _ (e2 _ _ h1)))⟩
    · intro i σ' H' _ z
      exact ex_l z.2.1 hS
    · intro i x σ' H' hx z
      obtain ⟨⟨u, rfl⟩, e5, h5⟩ := z
      obtain ⟨hi, rfl⟩ := at0_get hx
      obtain ⟨s1, s2⟩ := hss i hi
      refine q_app h5 (ev_var rfl) (ev_mod s1 (ev_int (ev_var rfl)) (ev_var rfl)) (by rw [List.length_map, List.length_map, List.length_range]; omega) fun H6 e6 => ?_
      refine s_asg (ev_div s1 s2 (ev_int (ev_var rfl)) (ev_var rfl)) fun H7 e7 => ⟨⟨some (.int (at0 ss i)), rfl⟩, ((e5.trans e6).mut hp).trans e7, ?_⟩
      rw [map_range_succ]
      exact e7 _ _ upd_same
    · intro σ' H' z
      obtain ⟨⟨u, rfl⟩, e5, h5⟩ := z
      rw [List.length_map] at h5
      refine s_ret (ev_var rfl) fun H6 e6 => ?_
      have e : digits c ss = (List.range ss.length).map (digA c ss) := by
        unfold digits
        refine List.map_congr_left fun i _ => ?_
        exact if_pos hc
      rw [e] at q
      exact q p H6 hp (e5.trans e6) (e6 _ _ h5)
  · have hc : ¬ 10 ^ 18 ≤ c := of_decide_eq_false hb
    refine q_asg (ev_mod (by decide) (ev_int (ev_var rfl)) ev_c) fun H4 e4 => ?_
    have e14 : Ex H H4 := ((e1.trans e2).trans e3).trans e4
    refine q_forR1 (ea_cons (ev_is (ev_cb (ea_cons (ev_var rfl) ea_nil) (rc_lenL (ex_l e14 hS))) (by rw [hl])) ea_nil) (by omega) (fun i σ' H' => (∃ u v, σ' = [some (.int c), some (.ref a), some (.ref p), some (.int c), none, some (.int (sdF c i)), u, v]) ∧ Ex H H' ∧ H' p = some (.lst (((List.range i).map (digB c ss)).map V.int))) ?_ ?_ ?_
    · intro H5 e5
      exact ⟨⟨none, none, rfl⟩, e14.trans e5, e5 _ _ (e4 _ _ (e3 _ _ (e2 _ _ h1)))⟩
    · intro i σ' H' hi z
      obtain ⟨⟨u, v, rfl⟩, e5, h5⟩ := z
      have hi' : i < ss.length := by omega
      obtain ⟨s1, s2⟩ := hss i hi'
      have b1 := sd_bound c (i + 1)
      refine q_asg (ev_mod (by decide) (ev_int (ev_add (ev_add (ev_mulR (by decide) (by decide) (ev_var rfl) ev_c) (ev_mulL (by decide) (by decide) ev_c (ev_var rfl))) ev_c)) ev_c) fun H6 e6 => ?_
      refine q_asg (ev_mod (by decide) (ev_int (ev_mulR (i := sdF c (i + 1)) (j := sdF c (i + 1) / 65537 + 3) (by omega) (by omega) (ev_var rfl) (ev_add (ev_div (by decide) (by decide) (ev_var rfl) ev_c) ev_c))) ev_c) fun H7 e7 => ?_
      refine s_app (e7 _ _ (e6 _ _ h5)) (ev_var rfl) (ev_mod s1 (ev_div (by decide) (by decide) (ev_var rfl) ev_c) (ev_at (ex_l ((e5.trans e6).trans e7) hS) hi' (ev_var rfl) (ev_var rfl))) (by rw [List.length_map, List.length_map, List.length_range]; omega) fun H8 e8 => ⟨⟨some (.int (i : Int)), some (.int (twF c i)), rfl⟩, (((e5.trans e6).trans e7).trans e8).mut hp, ?_⟩
      rw [map_range_succ]
      exact upd_same
    · intro σ' H' z
      obtain ⟨⟨u, v, rfl⟩, e5, h5⟩ := z
      refine s_ret (ev_var rfl) fun H6 e6 => ?_
      have e : digits c ss = (List.range ss.length).map (digB c ss) := by
        unfold digits
        refine List.map_congr_left fun i _ => ?_
        exact if_neg hc
      rw [e] at q
      exact q p H6 hp (e5.trans e6) (e6 _ _ h5)
end
end Ver
namespace Ver
open PySem PySem.Spec PyProof.Rows L2 Evl
section
variable {P : Program} {w : World} {K : PySem.W.Frag} {mg : Str → Option Value} {base : Heap} {C_Machine : Addr}
theorem has_cell (F : At K mg "_law_cell" s__law_cell) (T : Top K mg C_Machine) : Has P w K mg base "_law_cell" s__law_cell ["script", "k"] 1 (spCell K) := by
  obtain ⟨f, fd, F, m⟩ := F.ex
  refine ⟨f, fd, F, F.ok S__law_cell (fun vs H Q E h => ?_) (fun cdv A outer s H vs Q E hr h => ?_), F.binds fun _ _ _ _ _ _ us hl => match us, hl with | [_, _], _ => rfl, m, F.kp⟩
  · obtain ⟨a, ns, k, rfl, _⟩ := h
    rfl
  obtain ⟨a, ns, k, rfl, hS, h63, hk, q⟩ := h
  refine ⟨_, (pss_cons
    (ps_if (pt_cmpR op_lt (pv 1) (pe_callB call_len_seq rfl T.z_len PySem.boot_len (pa_cons (pv 0) pa_nil)) (nomark _)) (pss_one
    (ps_ret (pe_ix (r := rIxL K) ix_list (pv 0) (pv 1) (fun _ _ => rfl)))) pss_nil)
    (pss_cons
    (ps_set (i := 2) S__law_cell.nd rfl (Or.inl rfl) pe_int)
    (pss_cons
    (ps_for PassesOwn.never rfl (pi_list (pv 0)) (pg_name (i := 3) S__law_cell.nd rfl (Or.inl rfl)) (pss_one
    (ps_set (i := 2) S__law_cell.nd rfl (Or.inl rfl) (pe_op op_mod (pe_callTy call_int1 rfl T.z_int (by decide +kernel) (pa_cons (pe_op op_add (pe_op op_mul (pv 2) pe_int) (pe_op op_mod (pe_callTy call_int1 rfl T.z_int (by decide +kernel) (pa_cons (pv 3) pa_nil)) pe_int)) pa_nil)) pe_int))))
    (pss_one
    (ps_ret (pe_op op_mod (pe_callTy call_int1 rfl T.z_int (by decide +kernel) (pa_cons (pe_op op_mul (pe_op op_mul (pe_op op_add (pv 2) pe_int) (pe_op op_add (pv 1) pe_int)) pe_int) pa_nil)) pe_int)))))), ?_⟩
  have hl : (((ns.map V.int).length : Nat) : Int) = (ns.length : Int) := by rw [List.length_map]
  refine q_when (et_is (et_lt (ev_var rfl) (ev_is (ev_cb (ea_cons (ev_var rfl) ea_nil) (rc_lenL hS)) (by rw [hl]))) rfl) (fun hb H1 e1 => ?_) (fun hb H1 e1 => ?_)
  · have hlt : k < (ns.length : Int) := of_decide_eq_true hb
    have ek : k = ((k.toNat : Nat) : Int) := by omega
    refine s_ret (ev_at (ex_l e1 hS) (show k.toNat < ns.length by omega) (ev_var rfl) (ev_is (ev_var rfl) (by rw [← ek]))) fun H2 e2 => ?_
    have e : cell ns k = at0 ns k.toNat := if_pos hlt
    rw [e] at q
    exact q H2 (e1.trans e2)
  · have hlt : ¬ k < (ns.length : Int) := of_decide_eq_false hb
    refine q_asg ev_c fun H2 e2 => ?_
    refine q_forLn (ev_var rfl) (ex_l (e1.trans e2) hS) (fun i σ' H' => (∃ u, σ' = [some (.ref a), some (.int k), some (.int (seedF ns i)), u]) ∧ Ex H H') ?_ ?_ ?_ ?_
    · intro H3 e3
      exact ⟨⟨none, rfl⟩, (e1.trans e2).trans e3⟩
    · intro i σ' H' _ p
      exact ex_l p.2 hS
    · intro i x σ' H' hx p
      obtain ⟨⟨u, rfl⟩, e3⟩ := p
      obtain ⟨hi, rfl⟩ := at0_get hx
      refine s_asg (ev_mod (by decide) (ev_int (ev_add (ev_mulR (by decide) (by decide) (ev_var rfl) ev_c) (ev_mod (by decide) (ev_int (ev_var rfl)) ev_c))) ev_c) fun H4 e4 => ⟨⟨some (.int (at0 ns i)), rfl⟩, e3.trans e4⟩
    · intro σ' H' p
      obtain ⟨⟨u, rfl⟩, e3⟩ := p
      rw [List.length_map]
      refine s_ret (ev_mod (by decide) (ev_int (ev_mulR (by decide) (by decide) (ev_mulR (by omega) (by omega) (ev_add (ev_var rfl) ev_c) (ev_add (ev_var rfl) ev_c)) ev_c)) ev_c) fun H4 e4 => ?_
      have e : cell ns k = ((seedF ns ns.length + 7) * (k + 3) * 69621) % 2147483647 := if_neg hlt
      rw [e] at q
      exact q H4 (e3.trans e4)
end
end Ver
namespace Ver
open PySem PySem.Spec PyProof.Rows L2 Evl
/-! ### _law_alphabet -/
def figs : List Nat := [48, 49, 50, 51, 52, 53, 54, 55, 56, 57, 97, 98, 99, 100, 101, 102, 103, 104, 105, 106, 107, 108, 109, 110, 111, 112, 113, 114, 115, 116, 117, 118, 119, 120, 121, 122]
theorem figs_is : Str.ofString "0123456789abcdefghijklmnopqrstuvwxyz" = SX.S figs := by decide +kernel
theorem mt_is : Str.ofString "" = SX.S [] := by decide +kernel
theorem figs_let : ∀ c ∈ figs, (48 ≤ c ∧ c ≤ 57) ∨ (97 ≤ c ∧ c ≤ 122) := by decide +kernel
theorem figs_nd : figs.Nodup := by decide +kernel
theorem figs_at {i : Nat} (h : i < 36) : figs[i]? = some (figs.getD i 0) := by
  have : figs.length = 36 := rfl
  rw [List.getD_eq_getElem?_getD, List.getElem?_eq_getElem (by omega)]
  rfl
theorem figs_mem {i : Nat} (h : i < 36) : figs.getD i 0 ∈ figs := List.mem_of_getElem? (figs_at h)
theorem inV_one {c : Nat} {cs : List Nat} : inV (tx [c]) (cs.map fun c => tx [c]) = decide (c ∈ cs) := by
  unfold inV
  induction cs with
  | nil => rfl
  | cons d r ih =>
    rw [List.map_cons, List.any_cons, ih]
    show ((SX.S [d] == SX.S [c]) || decide (c ∈ r)) = _
    rw [SX.S_beq_eq, Bool.eq_iff_iff, Bool.or_eq_true, decide_eq_true_eq, decide_eq_true_eq, decide_eq_true_eq, List.mem_cons]
    constructor
    · rintro (h | h)
      · exact .inl (List.cons.inj h).1.symm
      · exact .inr h
    · rintro (h | h)
      · exact .inl (by rw [h])
      · exact .inr h
theorem flat_ones (cs : List Nat) : (cs.map fun c => tx [c]).all flatV = true := by
  induction cs with
  | nil => rfl
  | cons d r ih =>
    rw [List.map_cons, List.all_cons, ih]
    rfl
theorem rising_ones : ∀ (p : Nat) (cs : List Nat), risingS (SX.S [p]) (cs.map fun c => SX.S [c]) = true → (p :: cs).Pairwise (· ≤ ·)
  | p, [], _ => List.pairwise_singleton _ _
  | p, c :: r, h => by
    have h2 : (!ltCps [c] [p] && risingS (SX.S [c]) (r.map fun c => SX.S [c])) = true := h
    rw [Bool.and_eq_true, Bool.not_eq_true'] at h2
    have ih := rising_ones c r h2.2
    have hpc : p ≤ c := by
      have e : ltCps [c] [p] = (decide (c < p) || (c == p && ltCps [] [])) := rfl
      rw [e, Bool.or_eq_false_iff] at h2
      have := of_decide_eq_false h2.1.1
      omega
    refine List.pairwise_cons.mpr ⟨fun x hx => ?_, ih⟩
    rcases List.mem_cons.mp hx with rfl | hx
    · exact hpc
    · exact Nat.le_trans hpc ((List.pairwise_cons.mp ih).1 x hx)
theorem sorted_ones : ∀ (cs : List Nat), sortedS (cs.map fun c => SX.S [c]) = true → cs.Pairwise (· ≤ ·)
  | [], _ => List.Pairwise.nil
  | c :: r, h => rising_ones c r h
theorem flat_sing (cs : List Nat) : (cs.map fun c => [c]).flatten = cs := by
  induction cs with
  | nil => rfl
  | cons d r ih =>
    rw [List.map_cons, List.flatten_cons, ih]
    rfl
/-- the sorted signs of a list of different ones -/
theorem sorted_signs {cs : List Nat} {ys : List Str} (nd : cs.Nodup) (hp : ys.Perm (cs.map fun c => SX.S [c])) (hs : sortedS ys = true) : ∃ ds : List Nat, ys = ds.map (fun c => SX.S [c]) ∧ ds.Perm cs ∧ ds.Pairwise (· < ·) := by
  let g : Str → Nat := fun s => s.cps.toList.headD 0
  have hy : ys = (ys.map g).map fun c => SX.S [c] := by
    rw [List.map_map]
    refine (List.map_id' ys).symm.trans ?_ |> fun h => h
    refine List.map_congr_left fun y hm => ?_
    have := hp.mem_iff.mp hm
    obtain ⟨c, _, rfl⟩ := List.mem_map.mp this
    rfl
  have hd : (ys.map g).Perm cs := by
    have := hp.map g
    rw [List.map_map] at this
    have e : cs.map (g ∘ fun c => SX.S [c]) = cs := by
      conv => rhs; rw [← List.map_id' cs]
      exact List.map_congr_left fun _ _ => rfl
    rw [e] at this
    exact this
  refine ⟨ys.map g, hy, hd, ?_⟩
  have hle := sorted_ones (ys.map g) (by rw [← hy]; exact hs)
  have hnd := (hd.nodup_iff).mpr nd
  have := hle.and hnd
  exact this.imp fun h => Nat.lt_of_le_of_ne h.1 h.2
theorem s_retJoinX {K : PySem.W.Frag} {σ : L2.St} {H : Hp} {D : Ends} {te : TE} (h : te σ H fun y H2 => rJoin K (.str (Str.ofString "")) [y] H2 D.rt) : tRet (tM1 (rJoin K) (tC (.str (Str.ofString ""))) te) D σ H := ⟨⟨_, rfl⟩, h⟩
def manyOf (r0 : Int) : Int := at0 [2, 2, 2, 2, 3, 3, 3, 1, 4, 5, 6, 1] r0.toNat
section
variable {P : Program} {w : World} {K : PySem.W.Frag} {mg : Str → Option Value} {base : Heap} {C_Machine : Addr}
def spSigns (K : PySem.W.Frag) : Sp := fun vs H Q _ => ∃ (a : Addr) (r : List Int), vs = [.ref a] ∧ SqL K H a (r.map V.int) ∧ r.length = 7 ∧ (0 ≤ at0 r 0 ∧ at0 r 0 < 12) ∧ ∀ al, Alf al → RetV (tx al) H Q
theorem has_signs (F : At K mg "_law_alphabet" s__law_alphabet) (T : Top K mg C_Machine) : Has P w K mg base "_law_alphabet" s__law_alphabet ["row"] 1 (spSigns K) := by
  obtain ⟨f, fd, F, m⟩ := F.ex
  refine ⟨f, fd, F, F.ok S__law_alphabet (fun vs H Q E h => ?_) (fun cdv A outer s H vs Q E hr h => ?_), F.binds fun _ _ _ _ _ _ us hl => match us, hl with | [_], _ => rfl, m, F.kp⟩
  · obtain ⟨a, r, rfl, _⟩ := h
    rfl
  obtain ⟨a, r, rfl, hR, hl, b0, q⟩ := h
  refine ⟨_, (pss_cons
    (ps_set (i := 1) S__law_alphabet.nd rfl (Or.inl rfl) (pe_ix (r := rIxL K) ix_list (pe_lst (pa_cons pe_int (pa_cons pe_int (pa_cons pe_int (pa_cons pe_int (pa_cons pe_int (pa_cons pe_int (pa_cons pe_int (pa_cons pe_int (pa_cons pe_int (pa_cons pe_int (pa_cons pe_int (pa_cons pe_int pa_nil))))))))))))) (pe_ix (r := rIxL K) ix_list (pv 0) pe_int (fun _ _ => rfl)) (fun _ _ => rfl)))
    (pss_cons
    (ps_set (i := 2) S__law_alphabet.nd rfl (Or.inl rfl) pe_str)
    (pss_cons
    (ps_set (i := 3) S__law_alphabet.nd rfl (Or.inl rfl) (pe_lst pa_nil))
    (pss_cons
    (ps_for PassesOwn.never rfl (pi_range1 rfl T.z_range (pa_cons (pv 1) pa_nil)) (pg_name (i := 4) S__law_alphabet.nd rfl (Or.inl rfl)) (pss_cons
    (ps_set (i := 5) S__law_alphabet.nd rfl (Or.inl rfl) (pe_op op_mod (pe_callTy call_int1 rfl T.z_int (by decide +kernel) (pa_cons (pe_ix (r := rIxL K) ix_list (pv 0) (pe_op op_add pe_int (pv 4)) (fun _ _ => rfl)) pa_nil)) pe_int))
    (pss_cons
    (ps_for PassesOwn.never rfl (pi_range1 rfl T.z_range (pa_cons pe_int pa_nil)) (pg_name (i := 6) S__law_alphabet.nd rfl (Or.inl rfl)) (pss_one
    (ps_if (pt_cmpR op_in_seq (pe_ix ix_str (pv 2) (pv 5) (fun _ _ => rfl)) (pv 3) rfl) (pss_one
    (ps_set (i := 5) S__law_alphabet.nd rfl (Or.inl rfl) (pe_op op_mod (pe_callTy call_int1 rfl T.z_int (by decide +kernel) (pa_cons (pe_op op_add (pv 5) pe_int) pa_nil)) pe_int))) pss_nil)))
    (pss_one
    (ps_expr (pe_bm PySem.F.plainAttrs_list PySem.F.slot_list_append PySem.F.type_list_append mt_append (pv 3) (pa_cons (pe_ix ix_str (pv 2) (pv 5) (fun _ _ => rfl)) pa_nil)))))))
    (pss_one
    (ps_ret (pe_join pe_str (pe_callB cr_sortedS rfl T.z_sorted (by decide +kernel) (pa_cons (pv 3) pa_nil))))))))), ?_⟩
  obtain ⟨i0, hi0, e0⟩ : ∃ i : Nat, i < 12 ∧ at0 r 0 = (i : Int) := ⟨(at0 r 0).toNat, by omega, by omega⟩
  have km : ∀ i : Nat, i < 12 → ∃ n : Nat, 1 ≤ n ∧ n ≤ 6 ∧ at0 [2, 2, 2, 2, 3, 3, 3, 1, 4, 5, 6, 1] i = (n : Int) := by
    intro i hi
    have k : ∀ i : Nat, i < 12 → 1 ≤ at0 [2, 2, 2, 2, 3, 3, 3, 1, 4, 5, 6, 1] i ∧ at0 [2, 2, 2, 2, 3, 3, 3, 1, 4, 5, 6, 1] i ≤ 6 := by decide +kernel
    obtain ⟨k1, k2⟩ := k i hi
    exact ⟨(at0 [2, 2, 2, 2, 3, 3, 3, 1, 4, 5, 6, 1] i).toNat, by omega, by omega, by omega⟩
  obtain ⟨n, n1, n6, en⟩ := km i0 hi0
  refine q_asg (v := .int (n : Int)) ?_ fun H1 e1 => ?_
  · refine ev_opL1 (xs := [2, 2, 2, 2, 3, 3, 3, 1, 4, 5, 6, 1].map V.int) (y := .int (i0 : Int)) (el_lst (ea_cons ev_c (ea_cons ev_c (ea_cons ev_c (ea_cons ev_c (ea_cons ev_c (ea_cons ev_c (ea_cons ev_c (ea_cons ev_c (ea_cons ev_c (ea_cons ev_c (ea_cons ev_c (ea_cons ev_c ea_nil)))))))))))) (by show 12 ≤ 100000; decide)) (fun H1 e1 => ev_is (ev_atI (ex_l e1 hR) (i := 0) (by omega) rfl (ev_var rfl) ev_c) (by rw [e0])) (fun p H3 h3 e3 => rv_ixL (sq_of h3) ?_)
    rw [← en]
    exact at_int (ns := [2, 2, 2, 2, 3, 3, 3, 1, 4, 5, 6, 1]) hi0
  refine q_asg (v := tx figs) (ev_is ev_c (by rw [figs_is])) fun H2 e2 => ?_
  refine q_asgL (xs := []) (el_lst ea_nil (by decide)) fun l H3 hl3 e3 g3 => ?_
  have e13 := (e1.trans e2).trans e3
  have hl0 : H l = none := fresh_back (e1.trans e2) hl3
  refine q_forR1 (ea_cons (ev_var rfl) ea_nil) (by omega) (fun i σ' H' => (∃ u4 u5 u6, σ' = [some (.ref a), some (.int (n : Int)), some (tx figs), some (.ref l), u4, u5, u6]) ∧ Ex H H' ∧ ∃ cs : List Nat, H' l = some (.lst (cs.map fun c => tx [c])) ∧ cs.length = i ∧ cs.Nodup ∧ ∀ c ∈ cs, c ∈ figs) ?_ ?_ ?_
  · intro H4 e4
    exact ⟨⟨none, none, none, rfl⟩, e13.trans e4, [], e4 _ _ g3, rfl, List.nodup_nil, fun c h => (by cases h)⟩
  · intro i σ' H' hi z
    obtain ⟨⟨u4, u5, u6, rfl⟩, e4, cs, g4, hcl, nd, sub⟩ := z
    have hi6 : i < 6 := by omega
    obtain ⟨a0, ha0, ea0⟩ : ∃ k : Nat, k < 36 ∧ at0 r (1 + i) % 36 = (k : Int) := ⟨(at0 r (1 + i) % 36).toNat, by omega, by omega⟩
    refine q_asg (v := .int (a0 : Int)) (ev_is (ev_mod (by decide) (ev_int (ev_atI (ex_l e4 hR) (i := 1 + i) (by omega) (by omega) (ev_var rfl) (ev_add ev_c (ev_var rfl)))) ev_c) (by rw [ea0])) fun H4 e5 => ?_
    have g5 := e5 _ _ g4
    refine q_forR1 (ea_cons ev_c ea_nil) (by decide) (fun t σ' H' => (∃ (k : Nat) (u6 : Option V), σ' = [some (.ref a), some (.int (n : Int)), some (tx figs), some (.ref l), some (.int (i : Int)), some (.int (k : Int)), u6] ∧ k < 36 ∧ (figs.getD k 0 ∉ cs ∨ k = (a0 + t) % 36 ∧ ∀ s, s < t → figs.getD ((a0 + s) % 36) 0 ∈ cs)) ∧ Ex H4 H') ?_ ?_ ?_
    · intro H5 e6
      exact ⟨⟨a0, u6, rfl, ha0, .inr ⟨by omega, fun s hs => absurd hs (Nat.not_lt_zero _)⟩⟩, e6⟩
    · intro t σ' H' ht z
      obtain ⟨⟨k, u6, rfl, hk, hz⟩, e6⟩ := z
      refine s_when (et_test (ev_op (ev_ixS (by decide) (figs_at hk) (ev_var rfl) (ev_var rfl)) (ev_var rfl) (rv_isL (sq_of (e6 _ _ g5)) rfl (flat_ones cs)))) (fun hb H5 e7 => ?_) (fun hb H5 e7 => ?_)
      · rw [inV_one] at hb
        have hin := of_decide_eq_true hb
        obtain ⟨k2, hk2, ek2⟩ : ∃ k2 : Nat, k2 < 36 ∧ ((k : Int) + 1) % 36 = (k2 : Int) := ⟨(k + 1) % 36, by omega, by omega⟩
        refine s_asg (v := .int (k2 : Int)) (ev_is (ev_mod (by decide) (ev_int (ev_add (ev_var rfl) ev_c)) ev_c) (by rw [ek2])) fun H6 e8 => ⟨⟨k2, _, rfl, hk2, ?_⟩, (e6.trans e7).trans e8⟩
        rcases hz with hz | ⟨hz1, hz2⟩
        · exact absurd hin hz
        · refine .inr ⟨by omega, fun s hs => ?_⟩
          by_cases c : s < t
          · exact hz2 s c
          · have : s = t := by omega
            rw [this, ← hz1]
            exact hin
      · rw [inV_one] at hb
        have hout := of_decide_eq_false hb
        exact ⟨⟨k, _, rfl, hk, .inl hout⟩, e6.trans e7⟩
    · intro σ' H' z
      obtain ⟨⟨k, u6, rfl, hk, hz⟩, e6⟩ := z
      have hout : figs.getD k 0 ∉ cs := by
        rcases hz with hz | ⟨_, hz2⟩
        · exact hz
        · exfalso
          have := nodup_sub figs cs figs_nd fun x hx => by
            obtain ⟨j, hj, ej⟩ := List.mem_iff_getElem.mp hx
            have hj36 : j < 36 := hj
            have h2 := hz2 ((j + 36 - a0) % 36) (by show _ < 36; omega)
            have e9 : (a0 + (j + 36 - a0) % 36) % 36 = j := by omega
            rw [e9, List.getD_eq_getElem?_getD, List.getElem?_eq_getElem hj] at h2
            rw [← ej]
            exact h2
          have h36 : figs.length = 36 := rfl
          omega
      refine s_app (e6 _ _ g5) (ev_var rfl) (ev_ixS (by decide) (figs_at hk) (ev_var rfl) (ev_var rfl)) (by rw [List.length_map]; omega) fun H5 e7 => ⟨⟨_, _, _, rfl⟩, ((e4.trans e5).trans (e6.trans e7)).mut hl0, cs ++ [figs.getD k 0], ?_, by rw [List.length_append, hcl]; rfl, List.nodup_append.mpr ⟨nd, by simp, fun x hx y hy e => hout (by rw [← List.mem_singleton.mp hy, ← e]; exact hx)⟩, fun c hc => ?_⟩
      · rw [List.map_append]
        exact upd_same
      · rcases List.mem_append.mp hc with hc | hc
        · exact sub c hc
        · rw [List.mem_singleton.mp hc]
          exact figs_mem hk
  · intro σ' H' z
    obtain ⟨⟨u4, u5, u6, rfl⟩, e4, cs, g4, hcl, nd, sub⟩ := z
    rw [Int.toNat_natCast] at hcl
    have hms : (cs.map fun c => tx [c]) = (cs.map fun c => SX.S [c]).map V.str := by
      rw [List.map_map]
      rfl
    refine s_retJoinX ⟨_, rfl, l, cs.map (fun c => SX.S [c]), rfl, sq_of (by rw [← hms]; exact g4), by rw [List.length_map]; omega, fun ys p hp hs hpn => ?_⟩
    rw [mt_is]
    obtain ⟨ds, rfl, hdp, hda⟩ := sorted_signs nd hp hs
    have hdl := hdp.length_eq
    have hA : Alf ds := ⟨hda, by omega, by omega, fun c hc => figs_let c (sub c (hdp.mem_iff.mp hc))⟩
    have ej : (ds.map fun c => SX.S [c]) = (ds.map fun c => [c]).map SX.S := by
      rw [List.map_map]
      rfl
    have hfl : (ds.map fun c => [c]).flatten.length ≤ 100000 := by
      rw [flat_sing]
      omega
    refine join_ok (ps := ds.map fun c => [c]) (K := K) (.inl (sq_of (by rw [map_tx, ← ej]; exact upd_same))) hfl ?_
    rw [flat_sing]
    exact q ds hA _ (e4.trans (Ex.new hpn))
theorem Alf.ex {al : List Nat} (h : Alf al) (i : Nat) : al[i % al.length]? = some (al.getD (i % al.length) 0) ∧ al.getD (i % al.length) 0 ∈ al := by
  have hl : i % al.length < al.length := Nat.mod_lt _ h.pos
  have e : al[i % al.length]? = some (al.getD (i % al.length) 0) := by
    rw [List.getD_eq_getElem?_getD, List.getElem?_eq_getElem hl]
    rfl
  exact ⟨e, List.mem_of_getElem? e⟩
/-! ### _law_free_word -/
theorem int_mod {x : Int} {n : Nat} (hn : 0 < n) : ∃ k : Nat, k < n ∧ x % (n : Int) = (k : Int) := by
  have h1 := Int.emod_nonneg x (show (n : Int) ≠ 0 by omega)
  have h2 := Int.emod_lt_of_pos x (show 0 < (n : Int) by omega)
  exact ⟨(x % (n : Int)).toNat, by omega, by omega⟩
end
end Ver
namespace Ver
open PySem PySem.Spec PyProof.Rows L2 Evl
/-! ### what a term comes to, as a property -/
abbrev HV := Hp → V → Prop
def EvP (te : TE) (σ : L2.St) (H : Hp) (P : HV) : Prop := ∀ H1, Ex H H1 → ∀ Q : VK, (∀ v H2, Ex H1 H2 → P H2 v → Q v H2) → te σ H1 Q
structure Sol {α : Type} (P : α → HV) : Prop where
  mono : ∀ {a H H' v}, Ex H H' → P a H v → P a H' v
  upd : ∀ {a H v} {l : Addr} {us : List V} {o : HO}, H l = some (.lst us) → P a H v → P a (upd H l o) v
structure LsP {α : Type} (P : α → HV) (H : Hp) (xs : List V) (as : List α) : Prop where
  len : xs.length = as.length
  at_ : ∀ (i : Nat) (a : α), as[i]? = some a → ∃ x, xs[i]? = some x ∧ P a H x
def TupP {α : Type} (P : α → HV) (as : List α) : HV := fun H v => ∃ r ys, v = .ref r ∧ H r = some (.tup ys) ∧ LsP P H ys as
def LstP {α : Type} (P : α → HV) (as : List α) : HV := fun H v => ∃ r ys, v = .ref r ∧ H r = some (.lst ys) ∧ LsP P H ys as
section
variable {α : Type} {P : α → HV} {H H' : Hp} {xs : List V} {as : List α}
theorem LsP.nil : LsP P H [] [] := ⟨rfl, fun i a h => by simp at h⟩
theorem LsP.mono (S : Sol P) (h : LsP P H xs as) (e : Ex H H') : LsP P H' xs as := ⟨h.len, fun i a q => by
  obtain ⟨x, a1, a2⟩ := h.at_ i a q
  exact ⟨x, a1, S.mono e a2⟩⟩
theorem LsP.upd (S : Sol P) {l : Addr} {us : List V} {o : HO} (h : LsP P H xs as) (hl : H l = some (.lst us)) : LsP P (upd H l o) xs as := ⟨h.len, fun i a q => by
  obtain ⟨x, a1, a2⟩ := h.at_ i a q
  exact ⟨x, a1, S.upd hl a2⟩⟩
theorem LsP.snoc {x : V} {a : α} (h : LsP P H xs as) (hx : P a H x) : LsP P H (xs ++ [x]) (as ++ [a]) := by
  refine ⟨by rw [List.length_append, List.length_append, h.len]; rfl, fun i b e => ?_⟩
  by_cases hi : i < as.length
  · rw [List.getElem?_append_left hi] at e
    obtain ⟨y, a1, a2⟩ := h.at_ i b e
    exact ⟨y, by rw [List.getElem?_append_left (by rw [h.len]; exact hi)]; exact a1, a2⟩
  · have h1 := (List.getElem?_eq_some_iff.mp e).1
    rw [List.length_append] at h1
    have e2 : i = as.length := by
      simp at h1
      omega
    subst e2
    have e3 : a = b := by simpa using e
    subst e3
    refine ⟨x, ?_, hx⟩
    rw [← h.len]
    simp
theorem LsP.get (h : LsP P H xs as) {i : Nat} {x : V} (e : xs[i]? = some x) : ∃ a, as[i]? = some a ∧ P a H x := by
  have hi := (List.getElem?_eq_some_iff.mp e).1
  have hi2 : i < as.length := by rw [← h.len]; exact hi
  obtain ⟨y, a1, a2⟩ := h.at_ i as[i] (List.getElem?_eq_getElem hi2)
  rw [e] at a1
  cases a1
  exact ⟨_, List.getElem?_eq_getElem hi2, a2⟩
theorem LsP.cons {x : V} {a : α} (h1 : P a H x) (h : LsP P H xs as) : LsP P H (x :: xs) (a :: as) := ⟨by simp [h.len], fun i b e => by
  match i, e with
  | 0, e => exact ⟨x, rfl, by cases e; exact h1⟩
  | i + 1, e => exact h.at_ i b e⟩
theorem LsP.take (h : LsP P H xs as) (n : Nat) : LsP P H (xs.take n) (as.take n) := ⟨by rw [List.length_take, List.length_take, h.len], fun i b e => by
  rw [List.getElem?_take] at e
  by_cases c : i < n
  · rw [if_pos c] at e
    obtain ⟨x, a1, a2⟩ := h.at_ i b e
    exact ⟨x, by rw [List.getElem?_take, if_pos c]; exact a1, a2⟩
  · rw [if_neg c] at e
    cases e⟩
theorem tup_ne {r l : Addr} {ys us : List V} {o : HO} (h2 : H r = some (.tup ys)) (hl : H l = some (.lst us)) : (upd H l o) r = some (.tup ys) := by
  rw [upd_ne]
  · exact h2
  · intro z
    rw [z, hl] at h2
    cases h2
theorem Sol.tup (S : Sol P) : Sol (TupP P) := ⟨fun e ⟨r, ys, h1, h2, h3⟩ => ⟨r, ys, h1, e _ _ h2, h3.mono S e⟩, fun {as H v l us o} hl ⟨r, ys, h1, h2, h3⟩ => ⟨r, ys, h1, tup_ne h2 hl, h3.upd S hl⟩⟩
end
section
variable {σ : L2.St} {H : Hp} {ta te tb : TE} {K : PySem.W.Frag}
theorem EvP.of_ev {v : V} (h : Ev te σ H v) {P : HV} (hp : ∀ H1, Ex H H1 → P H1 v) : EvP te σ H P := fun H1 e Q q => h H1 e _ fun H2 e2 => q v H2 e2 (hp H2 (e.trans e2))
theorem EvP.of_eu {xs : List V} (h : EvU te σ H xs) {P : HV} (hp : ∀ p H1, Ex H H1 → H1 p = some (.tup xs) → P H1 (.ref p)) : EvP te σ H P := fun H1 e Q q => h H1 e _ fun p H2 _ e2 h2 => q _ H2 e2 (hp p H2 (e.trans e2) h2)
theorem EvP.mono {P : HV} {H' : Hp} (e : Ex H H') (h : EvP te σ H P) : EvP te σ H' P := fun H1 e1 => h H1 (e.trans e1)
theorem EvP.imp {P P' : HV} (h : EvP te σ H P) (hp : ∀ v H1, Ex H H1 → P H1 v → P' H1 v) : EvP te σ H P' := fun H1 e Q q => h H1 e Q fun v H2 e2 p => q v H2 e2 (hp v H2 (e.trans e2) p)
/-- a list under way -/
def Pw {α : Type} (P : α → HV) (v : Nat → α) (H : Hp) (Dl : Addr) (i : Nat) (H' : Hp) : Prop := H Dl = none ∧ Ex H H' ∧ ∃ acc, H' Dl = some (.lst acc) ∧ LsP P H' acc ((List.range i).map v)
theorem pw_turn {α : Type} {P : α → HV} (S : Sol P) {v : Nat → α} {H' : Hp} {Dl : Addr} {i : Nat} {σ2 : L2.St} (p : Pw P v H Dl i H') (hi : i < 50000) (he : EvP te σ2 H (P (v i))) : te σ2 H' fun y H4 => ∃ acc, H4 Dl = some (.lst acc) ∧ acc.length < sizeLine ∧ Pw P v H Dl (i + 1) (L2.upd H4 Dl (.lst (acc ++ [y]))) := by
  obtain ⟨p1, p2, acc, p3, p4⟩ := p
  refine he H' p2 _ fun y H4 e4 hy => ?_
  have g := e4 _ _ p3
  have hl := p4.len
  rw [List.length_map, List.length_range] at hl
  refine ⟨acc, g, sz_lt (by omega), p1, (p2.trans e4).mut p1, acc ++ [y], upd_same, ?_⟩
  rw [List.range_succ, List.map_append]
  exact ((p4.mono S e4).upd S g).snoc (S.upd g hy)
theorem pw_yes {α : Type} {P : α → HV} (S : Sol P) {v : Nat → α} {H' : Hp} {Dl : Addr} {i : Nat} {σ2 : L2.St} (p : Pw P v H Dl i H') (hi : i < 50000) (he : EvP te σ2 H (P (v i))) :
    tYes σ2 H' fun b H3 => if b = true then te σ2 H3 fun y H4 => ∃ acc, H4 Dl = some (.lst acc) ∧ acc.length < sizeLine ∧ Pw P v H Dl (i + 1) (L2.upd H4 Dl (.lst (acc ++ [y]))) else Pw P v H Dl (i + 1) H3 := by
  refine (show EvT tYes σ2 H' true from et_yes) H' (Ex.refl H') _ fun H3 e3 => ?_
  rw [if_pos rfl]
  obtain ⟨p1, p2, acc, p3, p4⟩ := p
  exact pw_turn S ⟨p1, p2.trans e3, acc, e3 _ _ p3, p4.mono S e3⟩ hi he
/-- a list made over a range, its items told by a property -/
theorem ep_lcR {α : Type} {P : α → HV} (S : Sol P) {tr : TA} {j : Nat} {vs : List Nat} {n : Nat} (v : Nat → α) (h : EvA tr σ H [.int (n : Int)]) (hn : n ≤ 40000) (hw : ∀ x, wipe ((wipe σ vs).set j (some x)) vs = wipe σ vs)
    (he : ∀ (i : Nat) H1, Ex H H1 → i < n → EvP te ((wipe σ vs).set j (some (.int (i : Int)))) H1 (P (v i))) : EvP (tLc (iRng1 tr) (gName j) tYes te vs) σ H (LstP P ((List.range n).map v)) := fun H0 e Q q => h H0 e _ fun H1 e1 => ⟨(n : Int), rfl, by omega, by omega, fun Dl hD =>
  lc_range (lo := 0) (n := ((n : Int)).toNat) (Pw P v H1 Dl) ⟨hD, Ex.new hD, [], upd_same, .nil⟩ (fun i H' hi p => by
    have e0 : (0 : Int) + (i : Int) = (i : Int) := Int.zero_add _
    show wipe ((wipe σ vs).set j (some (.int ((0 : Int) + (i : Int))))) vs = wipe σ vs ∧ tYes ((wipe σ vs).set j (some (.int ((0 : Int) + (i : Int))))) H' fun b H3 => if b = true then te ((wipe σ vs).set j (some (.int ((0 : Int) + (i : Int))))) H3 fun y H4 => ∃ acc, H4 Dl = some (.lst acc) ∧ acc.length < sizeLine ∧ Pw P v H1 Dl (i + 1) (L2.upd H4 Dl (.lst (acc ++ [y]))) else Pw P v H1 Dl (i + 1) H3
    rw [e0]
    exact ⟨hw _, pw_yes S p (by omega) (he i H1 (e.trans e1) (by omega))⟩) (fun H' p => by
      obtain ⟨p1, p2, acc, p3, p4⟩ := p
      rw [Int.toNat_natCast] at p4
      exact q _ H' (e1.trans p2) ⟨Dl, acc, rfl, p3, p4⟩)⟩
/-- over a list that stays -/
theorem ep_lcL {α : Type} {P : α → HV} (S : Sol P) {a : Addr} {xs : List V} {tl : TE} {j : Nat} {vs : List Nat} (v : Nat → α) (h : Ev tl σ H (.ref a)) (hx : SqL K H a xs) (hz : xs.length ≤ 40000) (hw : ∀ x, wipe ((wipe σ vs).set j (some x)) vs = wipe σ vs)
    (he : ∀ (i : Nat) (x : V) H1, Ex H H1 → xs[i]? = some x → EvP te ((wipe σ vs).set j (some x)) H1 (P (v i))) : EvP (tLc (iList K tl) (gName j) tYes te vs) σ H (LstP P ((List.range xs.length).map v)) := fun H0 e Q q => h H0 e _ fun H1 e1 => ⟨a, rfl, ⟨xs, ex_l (e.trans e1) hx⟩, fun Dl hD =>
  lc_list (xs := xs) (Pw P v H1 Dl) ⟨hD, Ex.new hD, [], upd_same, .nil⟩ (fun i H' _ p => ex_l ((e.trans e1).trans p.2.1) hx) (fun i x H' hi p => ⟨hw x, pw_yes S p (by have := (List.getElem?_eq_some_iff.mp hi).1; omega) (he i x H1 (e.trans e1) hi)⟩)
    (fun H' p => by
      obtain ⟨p1, p2, acc, p3, p4⟩ := p
      exact q _ H' (e1.trans p2) ⟨Dl, acc, rfl, p3, p4⟩)⟩
/-- over a new list -/
theorem ep_lcNL {α : Type} {P : α → HV} (S : Sol P) {xs : List V} {tl : TE} {j : Nat} {vs : List Nat} (v : Nat → α) (h : EvL tl σ H xs) (hz : xs.length ≤ 40000) (hw : ∀ x, wipe ((wipe σ vs).set j (some x)) vs = wipe σ vs)
    (he : ∀ (i : Nat) (x : V) H1, Ex H H1 → xs[i]? = some x → EvP te ((wipe σ vs).set j (some x)) H1 (P (v i))) : EvP (tLc (iList K tl) (gName j) tYes te vs) σ H (LstP P ((List.range xs.length).map v)) := fun H0 e Q q => h H0 e _ fun a H1 ha e1 hx => ⟨a, rfl, ⟨xs, sq_of hx⟩, fun Dl hD =>
  lc_list (xs := xs) (Pw P v H1 Dl) ⟨hD, Ex.new hD, [], upd_same, .nil⟩ (fun i H' _ p => sq_of (p.2.1 a _ hx)) (fun i x H' hi p => ⟨hw x, pw_yes S p (by have := (List.getElem?_eq_some_iff.mp hi).1; omega) (he i x H1 (e.trans e1) hi)⟩)
    (fun H' p => by
      obtain ⟨p1, p2, acc, p3, p4⟩ := p
      exact q _ H' (e1.trans p2) ⟨Dl, acc, rfl, p3, p4⟩)⟩
/-- over a tuple -/
theorem ep_lcT {α : Type} {P : α → HV} (S : Sol P) {a : Addr} {xs : List V} {tl : TE} {j : Nat} {vs : List Nat} (v : Nat → α) (h : Ev tl σ H (.ref a)) (hx : H a = some (.tup xs)) (hz : xs.length ≤ 40000) (hw : ∀ x, wipe ((wipe σ vs).set j (some x)) vs = wipe σ vs)
    (he : ∀ (i : Nat) (x : V) H1, Ex H H1 → xs[i]? = some x → EvP te ((wipe σ vs).set j (some x)) H1 (P (v i))) : EvP (tLc (iTup K tl) (gName j) tYes te vs) σ H (LstP P ((List.range xs.length).map v)) := fun H0 e Q q => h H0 e _ fun H1 e1 => ⟨a, rfl, ⟨xs, st_of ((e.trans e1) _ _ hx)⟩, fun Dl hD =>
  lc_tup (xs := xs) (Pw P v H1 Dl) ⟨hD, Ex.new hD, [], upd_same, .nil⟩ (fun i H' _ p => st_of (((e.trans e1).trans p.2.1) _ _ hx)) (fun i x H' hi p => ⟨hw x, pw_yes S p (by have := (List.getElem?_eq_some_iff.mp hi).1; omega) (he i x H1 (e.trans e1) hi)⟩)
    (fun H' p => by
      obtain ⟨p1, p2, acc, p3, p4⟩ := p
      exact q _ H' (e1.trans p2) ⟨Dl, acc, rfl, p3, p4⟩)⟩
/-- tuple(a list) -/
theorem ep_tup {α : Type} {P : α → HV} (S : Sol P) {as : List α} (h : EvP ta σ H (LstP P as)) : EvP (tCB (fun xs H Q => ∃ p ys, xs = [.ref p] ∧ ((SqL K H p ys ∧ ∀ l, H l = none → Q (.ref l) (L2.upd H l (.tup ys))) ∨ (SqT K H p ys ∧ Q (.ref p) H))) (tCons ta tNil)) σ H (TupP P as) := fun H1 e Q q =>
  h H1 e _ fun v H2 e2 ⟨p, ys, hv, hp, hl⟩ => by
    subst hv
    exact ⟨p, ys, rfl, .inl ⟨sq_of hp, fun l hl2 => q _ _ (e2.trans (Ex.new hl2)) ⟨l, ys, rfl, upd_same, hl.mono S (Ex.new hl2)⟩⟩⟩
/-- xs.append(..), the item told by a property -/
theorem s_appP {D : Ends} {P : HV} {l : Addr} {xs : List V} (hl : H l = some (.lst xs)) (ha : Ev ta σ H (.ref l)) (h : EvP te σ H P) (hz : xs.length < 100000) (k : ∀ v H1, Ex H H1 → P H1 v → D.nx σ (L2.upd H1 l (.lst (xs ++ [v])))) :
    tDrop (tBM K "list" rAppend ta (tCons te tNil)) D σ H := ha H (Ex.refl H) _ fun H1 e1 =>
  ⟨Or.inl ⟨rfl, xs, sq_of (e1 l _ hl)⟩, h H1 e1 _ fun v H2 e2 p => ⟨l, xs, v, rfl, rfl, e2 l _ (e1 l _ hl), sz_lt hz, k v H2 (e1.trans e2) p⟩⟩
theorem q_appP {D : Ends} {tz : TS} {P : HV} {l : Addr} {xs : List V} (hl : H l = some (.lst xs)) (ha : Ev ta σ H (.ref l)) (h : EvP te σ H P) (hz : xs.length < 100000) (k : ∀ v H1, Ex H H1 → P H1 v → tz D σ (L2.upd H1 l (.lst (xs ++ [v])))) :
    tSeq (tDrop (tBM K "list" rAppend ta (tCons te tNil))) tz D σ H := s_appP (D := { D with nx := tz D }) hl ha h hz k
theorem s_retP {D : Ends} {P : HV} (h : EvP te σ H P) (k : ∀ v H1, Ex H H1 → P H1 v → D.rt v H1) : tRet te D σ H := h H (Ex.refl H) _ k
theorem s_asgP {D : Ends} {P : HV} {i : Nat} (h : EvP te σ H P) (k : ∀ v H1, Ex H H1 → P H1 v → D.nx (σ.set i (some v)) H1) : tAsg te (gName i) D σ H := h H (Ex.refl H) _ k
theorem q_asgP {D : Ends} {tz : TS} {P : HV} {i : Nat} (h : EvP te σ H P) (k : ∀ v H1, Ex H H1 → P H1 v → tz D (σ.set i (some v)) H1) : tSeq (tAsg te (gName i)) tz D σ H := s_asgP (D := { D with nx := tz D }) h k
theorem ep_call {sp : Sp} {dvs vs : List V} {E : XK} {tp : TA} {P : HV} (h : EvA tp σ H vs) (hs : ∀ H1, Ex H H1 → ∀ Q : VK, (∀ v H2, Ex H1 H2 → P H2 v → Q v H2) → sp (vs ++ dvs) H1 Q E) : EvP (tCall sp dvs E tp) σ H P := fun H1 e Q q =>
  h H1 e _ fun H2 e2 => hs H2 (e.trans e2) Q fun v H3 e3 p => q v H3 (e2.trans e3) p
theorem ep_if {b : Bool} {t : TT} {P : HV} (h : EvT t σ H b) (h1 : b = true → EvP ta σ H P) (h2 : b = false → EvP tb σ H P) : EvP (tIf t ta tb) σ H P := by
  cases b with
  | true => exact fun H1 e Q q => h H1 e _ fun H2 e2 => (h1 rfl) H2 (e.trans e2) Q fun v H3 e3 p => q v H3 (e2.trans e3) p
  | false => exact fun H1 e Q q => h H1 e _ fun H2 e2 => (h2 rfl) H2 (e.trans e2) Q fun v H3 e3 p => q v H3 (e2.trans e3) p
end
/-! ### rules of a machine -/
abbrev Rul := Nat × List Nat
abbrev Tbl := List (List Rul)
def PairP (a : Rul) : HV := fun H v => ∃ r, v = .ref r ∧ H r = some (.tup [.int (a.1 : Int), tx a.2])
theorem pair_sol : Sol PairP := ⟨fun e ⟨r, h1, h2⟩ => ⟨r, h1, e _ _ h2⟩, fun {a H v l us o} hl ⟨r, h1, h2⟩ => ⟨r, h1, tup_ne h2 hl⟩⟩
abbrev LineP : List Rul → HV := TupP PairP
theorem line_sol : Sol LineP := pair_sol.tup
abbrev TabP : Tbl → HV := TupP LineP
theorem tab_sol : Sol TabP := line_sol.tup
theorem ep_pair {ta tb : TE} {σ : L2.St} {H : Hp} {n : Nat} {w : List Nat} (h1 : Ev ta σ H (.int (n : Int))) (h2 : Ev tb σ H (tx w)) : EvP (tTup (tCons ta (tCons tb tNil))) σ H (PairP (n, w)) :=
  EvP.of_eu (eu_tup (ea_cons h1 (ea_cons h2 ea_nil)) (by show 2 ≤ 100000; decide)) fun p H1 e h => ⟨p, rfl, h⟩
def rl (R : Tbl) (s k : Nat) : Rul := (R.getD s []).getD k (0, [])
structure TblOk (n : Nat) (R : Tbl) : Prop where
  pos : 1 ≤ R.length
  few : R.length ≤ 60
  row : ∀ (s : Nat) (r : List Rul), R[s]? = some r → r.length = n
  low : ∀ s k, s < R.length → k < n → (rl R s k).1 < R.length
  bit : ∀ s k, s < R.length → k < n → ∀ c ∈ (rl R s k).2, c = 48 ∨ c = 49
  len : ∀ s k, s < R.length → k < n → (rl R s k).2.length ≤ 100
theorem row_at {R : Tbl} {s : Nat} (h : s < R.length) : R[s]? = some (R.getD s []) := by
  rw [List.getD_eq_getElem?_getD, List.getElem?_eq_getElem h]
  rfl
theorem rl_at {n : Nat} {R : Tbl} (ok : TblOk n R) {s k : Nat} (hs : s < R.length) (hk : k < n) : (R.getD s [])[k]? = some (rl R s k) := by
  have h := ok.row s _ (row_at hs)
  unfold rl
  rw [List.getD_eq_getElem?_getD (l := R.getD s []), List.getElem?_eq_getElem (by omega)]
  rfl
/-- what a table holds -/
theorem tab_line {R : Tbl} {H : Hp} {xs : List V} {s : Nat} (h : LsP LineP H xs R) (hs : s < R.length) : ∃ q ys, xs[s]? = some (.ref q) ∧ H q = some (.tup ys) ∧ LsP PairP H ys (R.getD s []) := by
  obtain ⟨x, h1, q, ys, rfl, h2, h3⟩ := h.at_ s _ (row_at hs)
  exact ⟨q, ys, h1, h2, h3⟩
section
variable {σ : L2.St} {H : Hp} {ta tb tc : TE} {K : PySem.W.Frag}
theorem ev_rule {n : Nat} {R : Tbl} {p : Addr} {xs : List V} {s k : Nat} (ok : TblOk n R) (hp : H p = some (.tup xs)) (h : LsP LineP H xs R) (hs : s < R.length) (hk : k < n) (ha : Ev ta σ H (.ref p)) (hb : Ev tb σ H (.int (s : Int))) (hc : Ev tc σ H (.int (k : Int))) :
    ∃ r, H r = some (.tup [.int ((rl R s k).1 : Int), tx (rl R s k).2]) ∧ Ev (tOp (rIxT K) (tOp (rIxT K) ta tb) tc) σ H (.ref r) := by
  obtain ⟨q, ys, h1, h2, h3⟩ := tab_line h hs
  obtain ⟨x, g1, r, rfl, g2⟩ := h3.at_ k _ (rl_at ok hs hk)
  exact ⟨r, g2, ev_op (ev_op ha hb (rv_ixT (st_of hp) (atI_nat h1))) hc (rv_ixT (st_of h2) (atI_nat g1))⟩
end
/-! ### what a machine does -/
def ixf (al : List Nat) (c : Nat) : Nat := al.idxOf c
theorem ixf_at {al : List Nat} {c : Nat} (h : c ∈ al) : al[ixf al c]? = some c ∧ ixf al c < al.length := by
  have h1 := List.idxOf_lt_length_of_mem h
  exact ⟨by unfold ixf; rw [List.getElem?_eq_getElem h1, List.getElem_idxOf h1], h1⟩
def nxt (R : Tbl) (al : List Nat) (s c : Nat) : Nat := (rl R s (ixf al c)).1
def wrt (R : Tbl) (al : List Nat) (s c : Nat) : List Nat := (rl R s (ixf al c)).2
def fin (R : Tbl) (al : List Nat) : Nat → List Nat → Nat
  | s, [] => s
  | s, c :: v => fin R al (nxt R al s c) v
def out (R : Tbl) (al : List Nat) : Nat → List Nat → List Nat
  | _, [] => []
  | s, c :: v => wrt R al s c ++ out R al (nxt R al s c) v
theorem fin_app (R : Tbl) (al : List Nat) : ∀ (v u : List Nat) (s : Nat), fin R al s (v ++ u) = fin R al (fin R al s v) u
  | [], _, _ => rfl
  | _ :: v, u, s => fin_app R al v u _
theorem out_app (R : Tbl) (al : List Nat) : ∀ (v u : List Nat) (s : Nat), out R al s (v ++ u) = out R al s v ++ out R al (fin R al s v) u
  | [], _, _ => rfl
  | c :: v, u, s => by
    show wrt R al s c ++ out R al (nxt R al s c) (v ++ u) = (wrt R al s c ++ out R al (nxt R al s c) v) ++ _
    rw [out_app R al v u, List.append_assoc]
    rfl
section
variable {al : List Nat} {R : Tbl} (ok : TblOk al.length R)
include ok
theorem nxt_lt {s c : Nat} (hs : s < R.length) (hc : c ∈ al) : nxt R al s c < R.length := ok.low s _ hs (ixf_at hc).2
theorem fin_lt : ∀ (v : List Nat) (s : Nat), s < R.length → (∀ c ∈ v, c ∈ al) → fin R al s v < R.length
  | [], _, h, _ => h
  | c :: v, s, h, hv => fin_lt v _ (nxt_lt ok h (hv c (List.mem_cons_self ..))) fun d hd => hv d (List.mem_cons_of_mem _ hd)
theorem out_len : ∀ (v : List Nat) (s : Nat), s < R.length → (∀ c ∈ v, c ∈ al) → (out R al s v).length ≤ 100 * v.length
  | [], _, _, _ => Nat.le_refl _
  | c :: v, s, h, hv => by
    have h1 := ok.len s _ h (ixf_at (hv c (List.mem_cons_self ..))).2
    have h2 := out_len v _ (nxt_lt ok h (hv c (List.mem_cons_self ..))) fun d hd => hv d (List.mem_cons_of_mem _ hd)
    show (wrt R al s c ++ out R al (nxt R al s c) v).length ≤ 100 * (v.length + 1)
    rw [List.length_append]
    have h3 : (wrt R al s c).length ≤ 100 := h1
    omega
end
theorem take_snoc {l : List Nat} {i c : Nat} (h : l[i]? = some c) : l.take (i + 1) = l.take i ++ [c] := by
  rw [List.take_add_one, h]
  rfl
end Ver
namespace Ver
open PySem PySem.Spec PyProof.Rows L2 Evl
theorem map_at {α β : Type} (l : List α) (d : α) (f : α → β) {n : Nat} (h : n = l.length) : (List.range n).map (fun i => f (l.getD i d)) = l.map f := by
  subst h
  refine List.ext_getElem? fun k => ?_
  rw [List.getElem?_map, List.getElem?_map]
  by_cases c : k < l.length
  · rw [List.getElem?_range c, List.getElem?_eq_getElem c]
    show some (f (l.getD k d)) = some (f l[k])
    rw [List.getD_eq_getElem?_getD, List.getElem?_eq_getElem c]
    rfl
  · rw [List.getElem?_eq_none (by rw [List.length_range]; omega), List.getElem?_eq_none (by omega)]
    rfl
/-! ### lists of lists -/
structure LLs (H : Hp) (ys : List V) (as : List (List V)) : Prop where
  len : ys.length = as.length
  at_ : ∀ (i : Nat) (a : List V), as[i]? = some a → ∃ r, ys[i]? = some (.ref r) ∧ H r = some (.lst a)
theorem LLs.mono {H H' : Hp} {ys : List V} {as : List (List V)} (h : LLs H ys as) (e : Ex H H') : LLs H' ys as := ⟨h.len, fun i a q => by
  obtain ⟨r, a1, a2⟩ := h.at_ i a q
  exact ⟨r, a1, e _ _ a2⟩⟩
theorem LLs.get {H : Hp} {ys : List V} {as : List (List V)} (h : LLs H ys as) {i : Nat} {x : V} (e : ys[i]? = some x) : ∃ a r, as[i]? = some a ∧ x = .ref r ∧ H r = some (.lst a) := by
  have hi := (List.getElem?_eq_some_iff.mp e).1
  have hi2 : i < as.length := by rw [← h.len]; exact hi
  obtain ⟨r, a1, a2⟩ := h.at_ i as[i] (List.getElem?_eq_getElem hi2)
  rw [e] at a1
  cases a1
  exact ⟨_, r, List.getElem?_eq_getElem hi2, rfl, a2⟩
theorem LLs.app {H : Hp} {ys zs : List V} {as bs : List (List V)} (h : LLs H ys as) (g : LLs H zs bs) : LLs H (ys ++ zs) (as ++ bs) := ⟨by rw [List.length_append, List.length_append, h.len, g.len], fun i a q => by
  by_cases hi : i < as.length
  · rw [List.getElem?_append_left hi] at q
    obtain ⟨r, a1, a2⟩ := h.at_ i a q
    exact ⟨r, by rw [List.getElem?_append_left (by rw [h.len]; exact hi)]; exact a1, a2⟩
  · rw [List.getElem?_append_right (by omega)] at q
    obtain ⟨r, a1, a2⟩ := g.at_ _ a q
    exact ⟨r, by rw [List.getElem?_append_right (by rw [h.len]; omega), h.len]; exact a1, a2⟩⟩
theorem LLs.drop {H : Hp} {ys : List V} {as : List (List V)} (h : LLs H ys as) (n : Nat) : LLs H (ys.drop n) (as.drop n) := ⟨by rw [List.length_drop, List.length_drop, h.len], fun i a q => by
  rw [List.getElem?_drop] at q
  obtain ⟨r, a1, a2⟩ := h.at_ _ a q
  exact ⟨r, by rw [List.getElem?_drop]; exact a1, a2⟩⟩
def EvLL (te : TE) (σ : L2.St) (H : Hp) (as : List (List V)) : Prop := ∀ H1, Ex H H1 → ∀ Q : VK, (∀ l ys H2, H1 l = none → Ex H1 H2 → H2 l = some (.lst ys) → LLs H2 ys as → Q (.ref l) H2) → te σ H1 Q
section
variable {σ : L2.St} {H : Hp} {ta te tb : TE} {K : PySem.W.Frag}
def Pl (v : Nat → List V) (H : Hp) (Dl : Addr) (i : Nat) (H' : Hp) : Prop := H Dl = none ∧ Ex H H' ∧ ∃ acc, H' Dl = some (.lst acc) ∧ acc.length = i ∧ ∀ k, k < i → ∃ r, acc[k]? = some (.ref r) ∧ r ≠ Dl ∧ H' r = some (.lst (v k))
theorem pl_yes {v : Nat → List V} {H' : Hp} {Dl : Addr} {i : Nat} {σ2 : L2.St} (p : Pl v H Dl i H') (hi : i < 50000) (he : EvL te σ2 H (v i)) :
    tYes σ2 H' fun b H3 => if b = true then te σ2 H3 fun y H4 => ∃ acc, H4 Dl = some (.lst acc) ∧ acc.length < sizeLine ∧ Pl v H Dl (i + 1) (L2.upd H4 Dl (.lst (acc ++ [y]))) else Pl v H Dl (i + 1) H3 := by
  refine (show EvT tYes σ2 H' true from et_yes) H' (Ex.refl H') _ fun H3 e3 => ?_
  rw [if_pos rfl]
  obtain ⟨p1, p2, acc, p3, p4, p5⟩ := p
  refine he H3 (p2.trans e3) _ fun l H4 hl e4 g4 => ?_
  have e34 := e3.trans e4
  have g := e34 _ _ p3
  have hl' : H' l = none := fresh_back e3 hl
  have ne : l ≠ Dl := fun z => by
    rw [z, p3] at hl'
    cases hl'
  refine ⟨acc, g, sz_lt (by omega), p1, (p2.trans e34).mut p1, acc ++ [.ref l], upd_same, by rw [List.length_append, p4]; rfl, fun k hk => ?_⟩
  by_cases c : k < i
  · obtain ⟨r, y1, y2, y3⟩ := p5 k c
    exact ⟨r, by rw [List.getElem?_append_left (by omega)]; exact y1, y2, by rw [upd_ne y2]; exact e34 _ _ y3⟩
  · have ek : k = i := by omega
    subst ek
    exact ⟨l, by rw [List.getElem?_append_right (by omega), p4, Nat.sub_self]; rfl, ne, by rw [upd_ne ne]; exact g4⟩
theorem pl_end {v : Nat → List V} {H' : Hp} {Dl : Addr} {n : Nat} {Q : VK} (p : Pl v H Dl n H') (q : ∀ l ys H2, H l = none → Ex H H2 → H2 l = some (.lst ys) → LLs H2 ys ((List.range n).map v) → Q (.ref l) H2) : Q (.ref Dl) H' := by
  obtain ⟨p1, p2, acc, p3, p4, p5⟩ := p
  refine q Dl acc H' p1 p2 p3 ⟨by rw [List.length_map, List.length_range, p4], fun i a ha => ?_⟩
  rw [List.getElem?_map] at ha
  have hi : i < n := by
    by_cases c : i < n
    · exact c
    · rw [List.getElem?_eq_none (by rw [List.length_range]; omega)] at ha
      cases ha
  rw [List.getElem?_range hi] at ha
  cases ha
  obtain ⟨r, y1, _, y3⟩ := p5 i hi
  exact ⟨r, y1, y3⟩
theorem ell_lcR {tr : TA} {j : Nat} {vs : List Nat} {n : Nat} (v : Nat → List V) (h : EvA tr σ H [.int (n : Int)]) (hn : n ≤ 40000) (hw : ∀ x, wipe ((wipe σ vs).set j (some x)) vs = wipe σ vs)
    (he : ∀ (i : Nat) H1, Ex H H1 → i < n → EvL te ((wipe σ vs).set j (some (.int (i : Int)))) H1 (v i)) : EvLL (tLc (iRng1 tr) (gName j) tYes te vs) σ H ((List.range n).map v) := fun H0 e Q q => h H0 e _ fun H1 e1 => ⟨(n : Int), rfl, by omega, by omega, fun Dl hD =>
  lc_range (lo := 0) (n := ((n : Int)).toNat) (Pl v H1 Dl) ⟨hD, Ex.new hD, [], upd_same, rfl, fun k hk => absurd hk (Nat.not_lt_zero _)⟩ (fun i H' hi p => by
    have e0 : (0 : Int) + (i : Int) = (i : Int) := Int.zero_add _
    show wipe ((wipe σ vs).set j (some (.int ((0 : Int) + (i : Int))))) vs = wipe σ vs ∧ tYes ((wipe σ vs).set j (some (.int ((0 : Int) + (i : Int))))) H' fun b H3 => if b = true then te ((wipe σ vs).set j (some (.int ((0 : Int) + (i : Int))))) H3 fun y H4 => ∃ acc, H4 Dl = some (.lst acc) ∧ acc.length < sizeLine ∧ Pl v H1 Dl (i + 1) (L2.upd H4 Dl (.lst (acc ++ [y]))) else Pl v H1 Dl (i + 1) H3
    rw [e0]
    exact ⟨hw _, pl_yes p (by omega) (he i H1 (e.trans e1) (by omega))⟩) (fun H' p => by
      rw [Int.toNat_natCast] at p
      exact pl_end p fun l ys H2 hl e2 => q l ys H2 (fresh_back e1 hl) (e1.trans e2))⟩
theorem ell_lcT {a : Addr} {xs : List V} {tl : TE} {j : Nat} {vs : List Nat} (v : Nat → List V) (h : Ev tl σ H (.ref a)) (hx : H a = some (.tup xs)) (hz : xs.length ≤ 40000) (hw : ∀ x, wipe ((wipe σ vs).set j (some x)) vs = wipe σ vs)
    (he : ∀ (i : Nat) (x : V) H1, Ex H H1 → xs[i]? = some x → EvL te ((wipe σ vs).set j (some x)) H1 (v i)) : EvLL (tLc (iTup K tl) (gName j) tYes te vs) σ H ((List.range xs.length).map v) := fun H0 e Q q => h H0 e _ fun H1 e1 => ⟨a, rfl, ⟨xs, st_of ((e.trans e1) _ _ hx)⟩, fun Dl hD =>
  lc_tup (xs := xs) (Pl v H1 Dl) ⟨hD, Ex.new hD, [], upd_same, rfl, fun k hk => absurd hk (Nat.not_lt_zero _)⟩ (fun i H' _ p => st_of (((e.trans e1).trans p.2.1) _ _ hx)) (fun i x H' hi p => ⟨hw x, pl_yes p (by have := (List.getElem?_eq_some_iff.mp hi).1; omega) (he i x H1 (e.trans e1) hi)⟩)
    (fun H' p => pl_end p fun l ys H2 hl e2 => q l ys H2 (fresh_back e1 hl) (e1.trans e2))⟩
/-- a comprehension over a tuple without a condition, flat values -/
theorem el_lcT {a : Addr} {xs : List V} {tl : TE} {j : Nat} {vs : List Nat} (v : Nat → V) (h : Ev tl σ H (.ref a)) (hx : H a = some (.tup xs)) (hz : xs.length ≤ 40000) (hw : ∀ x, wipe ((wipe σ vs).set j (some x)) vs = wipe σ vs)
    (he : ∀ (i : Nat) (x : V) H1, Ex H H1 → xs[i]? = some x → Ev te ((wipe σ vs).set j (some x)) H1 (v i)) : EvL (tLc (iTup K tl) (gName j) tYes te vs) σ H ((List.range xs.length).map v) := fun H0 e Q q => h H0 e _ fun H1 e1 => ⟨a, rfl, ⟨xs, st_of ((e.trans e1) _ _ hx)⟩, fun Dl hD =>
  lc_tup (xs := xs) (fun i H' => H1 Dl = none ∧ Ex H1 H' ∧ H' Dl = some (.lst ((List.range i).map v))) ⟨hD, Ex.new hD, upd_same⟩ (fun i H' _ p => st_of (((e.trans e1).trans p.2.1) _ _ hx)) (fun i x H' hi p => ⟨hw x, by
      refine (show EvT tYes _ H' true from et_yes) H' (Ex.refl H') _ fun H3 e3 => ?_
      rw [if_pos rfl]
      refine he i x H1 (e.trans e1) hi H3 (p.2.1.trans e3) _ fun H4 e4 => ⟨_, e4 _ _ (e3 _ _ p.2.2), sz_lt (by have := (List.getElem?_eq_some_iff.mp hi).1; rw [List.length_map, List.length_range]; omega), p.1, (p.2.1.trans (e3.trans e4)).mut p.1, ?_⟩
      rw [List.range_succ, List.map_append]
      exact upd_same⟩)
    (fun H' p => q Dl H' (fresh_back e1 p.1) (e1.trans p.2.1) p.2.2)⟩
end
end Ver
namespace Ver
open PySem PySem.Spec PyProof.Rows L2 Evl
/-! ### min of three numbers; an item of a written list; items by place -/
def rMin3 : List V → Hp → VK → Prop := fun xs H Q => ∃ i j k, xs = [.int i, .int j, .int k] ∧ Q (.int (min i (min j k))) H
theorem call_min3I {X : Cx} (hc : X.calm = true) : CallR X (.builtin "min") rMin3 := by
  intro pn s σ H xs us Q I r h
  obtain ⟨i, j, k, rfl, q⟩ := h
  match us, r with
  | [_, _, _], .cons ⟨t, rfl⟩ (.cons ⟨t1, rfl⟩ (.cons ⟨t2, rfl⟩ .nil)) =>
    refine min_three_ints (I.ok.hd hc) fun h' tk keep => ⟨_, H, I.kept keep, ?_, q⟩
    by_cases c1 : j < i
    · rw [if_pos c1]
      by_cases c2 : k < j
      · rw [if_pos c2]
        exact ⟨t2, by rw [show min i (min j k) = k by omega]⟩
      · rw [if_neg c2]
        exact ⟨t1, by rw [show min i (min j k) = j by omega]⟩
    · rw [if_neg c1]
      by_cases c2 : k < i
      · rw [if_pos c2]
        exact ⟨t2, by rw [show min i (min j k) = k by omega]⟩
      · rw [if_neg c2]
        exact ⟨t, by rw [show min i (min j k) = i by omega]⟩
section
variable {K : PySem.W.Frag} {σ : L2.St} {H : Hp} {ta tb tc tl : TE} {tz : TS} {D : Ends}
theorem rc_min3 {i j k : Int} : RC rMin3 [.int i, .int j, .int k] H (.int (min i (min j k))) := fun H1 _ _ q => ⟨i, j, k, rfl, q H1 (Ex.refl H1)⟩
/-- an item of a new list of ints -/
theorem ev_atN {ns : List Int} {i : Nat} {z : Int} (hl : EvL tl σ H (ns.map V.int)) (hi : i < ns.length) (hz : z = (i : Int)) (hb : ∀ H1, Ex H H1 → Ev tb σ H1 (.int z)) : Ev (tOp (rIxL K) tl tb) σ H (.int (at0 ns i)) := by
  subst hz
  exact ev_opL1 hl hb fun p H1 h _ => rv_ixL (sq_of h) (at_int hi)
/-- the numbers f 0, f 1, .. as a list -/
def nl (f : Nat → Nat) (n : Nat) : List Int := (List.range n).map fun k => (f k : Int)
theorem nl_len (f : Nat → Nat) (n : Nat) : (nl f n).length = n := by
  unfold nl
  rw [List.length_map, List.length_range]
theorem nl_at {f : Nat → Nat} {n i : Nat} (h : i < n) : at0 (nl f n) i = (f i : Int) := by
  unfold nl at0
  rw [List.getD_eq_getElem?_getD, List.getElem?_map, List.getElem?_range h]
  rfl
theorem nl_succ (f : Nat → Nat) (n : Nat) : (nl f (n + 1)).map V.int = (nl f n).map V.int ++ [V.int (f n : Int)] := by
  unfold nl
  rw [List.range_succ, List.map_append, List.map_append]
  rfl
theorem nl_congr {f g : Nat → Nat} {n : Nat} (h : ∀ k, k < n → f k = g k) : nl f n = nl g n := by
  unfold nl
  refine List.map_congr_left fun k hk => ?_
  rw [h k (List.mem_range.mp hk)]
theorem ev_nl {a : Addr} {f : Nat → Nat} {n i : Nat} {z : Int} (hs : SqL K H a ((nl f n).map V.int)) (hi : i < n) (hz : z = (i : Int)) (ha : Ev ta σ H (.ref a)) (hb : Ev tb σ H (.int z)) : Ev (tOp (rIxL K) ta tb) σ H (.int (f i : Int)) := by
  have g := ev_atI hs (by rw [nl_len]; exact hi) hz ha hb
  rw [nl_at hi] at g
  exact g
theorem nl_get (f : Nat → Nat) (n j : Nat) : ((nl f n).map V.int)[j]? = if j < n then some (.int (f j : Int)) else none := by
  unfold nl
  rw [List.getElem?_map, List.getElem?_map]
  by_cases c : j < n
  · rw [if_pos c, List.getElem?_range c]
    rfl
  · rw [if_neg c, List.getElem?_eq_none (by rw [List.length_range]; omega)]
    rfl
theorem set_nl {f : Nat → Nat} {n i x : Nat} (hi : i < n) : ((nl f n).map V.int).set i (.int (x : Int)) = (nl (fun k => if k = i then x else f k) n).map V.int := by
  refine List.ext_getElem? fun j => ?_
  rw [List.getElem?_set, nl_get, nl_get, List.length_map, nl_len]
  by_cases c : i = j
  · subst c
    rw [if_pos rfl, if_pos hi, if_pos hi, if_pos rfl]
  · rw [if_neg c]
    by_cases d : j < n
    · rw [if_pos d, if_pos d, if_neg fun e => c (Eq.symm e)]
    · rw [if_neg d, if_neg d]
theorem given_nl (f : Nat → Nat) (n : Nat) : given n (fun _ => true) (fun k => V.int (f k : Int)) = (nl f n).map V.int := by
  unfold given nl
  rw [List.filter_eq_self.mpr fun _ _ => rfl, List.map_map]
  rfl
end
open L2 Evl in
theorem ev_chainV {r r' : R2} {ta tb tc : TE} {σ : L2.St} {H : Hp} {x y z : V} {a b : Bool} (h1 : Ev ta σ H x) (h2 : Ev tb σ H y) (hr : RV r x y H (.bl a)) (h3 : a = true → Ev tc σ H z) (hr' : a = true → RV r' y z H (.bl b)) : Ev (tChain r r' ta tb tc) σ H (.bl (a && b)) := fun H1 e Q q =>
  h1 H1 e _ fun H2 e2 => h2 H2 (e.trans e2) _ fun H3 e3 => hr H3 ((e.trans e2).trans e3) _ fun H4 e4 => ⟨a, rfl, by
    have e5 := ((e.trans e2).trans e3).trans e4
    cases a with
    | false => exact ite_ff (q H4 ((e2.trans e3).trans e4))
    | true => exact ite_tt (h3 rfl H4 e5 _ fun H5 e6 => hr' rfl H5 (e5.trans e6) Q fun H6 e7 => q H6 (((((e2.trans e3).trans e4).trans e6)).trans e7))⟩
section
variable {K : PySem.W.Frag}
theorem cutV_from {xs : List V} (n : Nat) : cutV xs (some (n : Int)) none = xs.drop n := by
  unfold cutV
  rw [HT.sIx_none, HT.sIx_nat]
  by_cases h : n ≤ xs.length
  · rw [Nat.min_eq_left h]
    exact List.take_of_length_le (by rw [List.length_drop]; omega)
  · rw [Nat.min_eq_right (by omega), Nat.sub_self, List.take_zero, List.drop_eq_nil_of_le (by omega)]
theorem at0_drop {r : List Int} {n i : Nat} : at0 (r.drop n) i = at0 r (n + i) := by
  unfold at0
  rw [List.getD_eq_getElem?_getD, List.getD_eq_getElem?_getD, List.getElem?_drop]
theorem el_from {σ : L2.St} {H : Hp} {te : TE} {a : Addr} {r : List Int} {n : Nat} {i : Int} (hi : i = (n : Int)) (h : Ev te σ H (.ref a)) (hR : SqL K H a (r.map V.int)) : EvL (tSl (rSlL K) te (tPart (tC (.int i))) tNoPart) σ H ((r.drop n).map V.int) := by
  have g := el_sl (K := K) (te := te) (σ := σ) (H := H) (tl := tPart (tC (.int i))) (th := tNoPart) (lo := some i) (hi := none) h (eo_some ev_c) eo_none hR
  subst hi
  rw [cutV_from, ← List.map_drop] at g
  exact g
theorem cutV_both {xs : List V} (a b : Nat) : cutV xs (some (a : Int)) (some ((a + b : Nat) : Int)) = (xs.drop a).take b := by
  unfold cutV
  rw [HT.sIx_nat, HT.sIx_nat]
  by_cases c : a ≤ xs.length
  · rw [Nat.min_eq_left c, ← List.take_drop_min c]
  · rw [List.drop_eq_nil_of_le (show xs.length ≤ min a xs.length by omega), List.drop_eq_nil_of_le (show xs.length ≤ a by omega), List.take_nil, List.take_nil]
where
  List.take_drop_min {xs : List V} {a b : Nat} (c : a ≤ xs.length) : (xs.drop a).take b = (xs.drop a).take (min (a + b) xs.length - a) := by
    by_cases d : a + b ≤ xs.length
    · rw [Nat.min_eq_left d, Nat.add_sub_cancel_left]
    · rw [Nat.min_eq_right (by omega), List.take_of_length_le (by rw [List.length_drop]; omega), List.take_of_length_le (by rw [List.length_drop]; omega)]
theorem at0_take {r : List Int} {n i : Nat} (h : i < n) : at0 (r.take n) i = at0 r i := by
  unfold at0
  rw [List.getD_eq_getElem?_getD, List.getD_eq_getElem?_getD, List.getElem?_take_of_lt h]
theorem el_both {σ : L2.St} {H : Hp} {te t1 t2 : TE} {a : Addr} {r : List Int} {n k : Nat} (h : Ev te σ H (.ref a)) (hR : SqL K H a (r.map V.int)) (h1 : Ev t1 σ H (.int (n : Int))) (h2 : Ev t2 σ H (.int ((n + k : Nat) : Int))) : EvL (tSl (rSlL K) te (tPart t1) (tPart t2)) σ H (((r.drop n).take k).map V.int) := by
  have g := el_sl h (eo_some h1) (eo_some h2) hR
  rw [cutV_both] at g
  rw [List.map_take, List.map_drop]
  exact g
end
section
variable {K : PySem.W.Frag} {σ : L2.St} {H : Hp} {ta tb tc tl : TE} {sp : Sp} {dvs xs : List V} {E : XK} {Q : VK}
theorem el_lrg {n : Nat} (h : Ev ta σ H (.int (n : Int))) (hn : n ≤ 100000) : EvL (tLstRg (tRg1 ta)) σ H ((nl (fun k => k) n).map V.int) := fun H1 e Q q =>
  h H1 e _ fun H2 e2 => ⟨(n : Int), rfl, RgOk.of_le (by omega) (by omega) (by omega) (by omega), fun p hp => by
    have ee : rgV 0 (n : Int) = (nl (fun k => k) n).map V.int := by
      unfold rgV nl
      rw [List.map_map, show ((n : Int) - 0).toNat = n by omega]
      refine List.map_congr_left fun i _ => ?_
      show V.int (0 + (i : Int)) = V.int (i : Int)
      rw [Int.zero_add]
    rw [ee]
    exact q p _ (fresh_back e2 hp) (e2.trans (Ex.new hp)) upd_same⟩
theorem ev_sumN {ns : List Int} (h : EvL tl σ H (ns.map V.int)) : Ev (tCB (fun vs H Q => ∃ (a : Addr) (ns : List Int), vs = [V.ref a] ∧ SqL K H a (ns.map V.int) ∧ Q (V.int ns.sum) H) (tCons tl tNil)) σ H (.int ns.sum) := fun H1 e Q q =>
  h H1 e _ fun p H2 _ e2 g2 => ⟨p, ns, rfl, sq_of g2, q H2 e2⟩
theorem el_eq {ys : List V} (h : EvL tl σ H xs) (e : xs = ys) : EvL tl σ H ys := by
  rw [← e]
  exact h
theorem rv_eqv {r : R2} {x y z z' : V} (h : RV r x y H z) (e : z = z') : RV r x y H z' := by
  rw [← e]
  exact h
theorem el_catB {ys : List V} {a : Addr} (ha : Ev ta σ H (.ref a)) (hx : H a = some (.lst xs)) (hb : EvL tb σ H ys) (hz : xs.length + ys.length ≤ 100000) : EvL (tOp rCat ta tb) σ H (xs ++ ys) := fun H1 e Q q =>
  ha H1 e _ fun H2 e2 => hb H2 (e.trans e2) _ fun p H3 hp e3 h3 => ⟨a, p, xs, ys, rfl, rfl, ((e.trans e2).trans e3) _ _ hx, h3, sz_of hz, fun l hl => q l _ (fresh_back (e2.trans e3) hl) ((e2.trans e3).trans (Ex.new hl)) upd_same⟩
/-- the least, the greatest of a new list, whatever it is -/
theorem run_minN {ns : List Int} (h : EvL tl σ H (ns.map V.int)) (hp : 0 < ns.length) (k : ∀ m H1, Ex H H1 → m ∈ ns → (∀ y ∈ ns, m ≤ y) → Q (.int m) H1) : tCB (rMin K) (tCons tl tNil) σ H Q := h H (Ex.refl H) _ fun p H1 _ e g => ⟨p, ns, rfl, sq_of g, hp, fun m hm hy => k m H1 e hm hy⟩
theorem run_maxN {ns : List Int} (h : EvL tl σ H (ns.map V.int)) (hp : 0 < ns.length) (k : ∀ m H1, Ex H H1 → m ∈ ns → (∀ y ∈ ns, y ≤ m) → Q (.int m) H1) : tCB (rMax K) (tCons tl tNil) σ H Q := h H (Ex.refl H) _ fun p H1 _ e g => ⟨p, ns, rfl, sq_of g, hp, fun m hm hy => k m H1 e hm hy⟩
theorem run_c1L (hl : EvL tl σ H xs) (k : ∀ p H1, Ex H H1 → H1 p = some (.lst xs) → sp ([.ref p] ++ dvs) H1 Q E) : tCall sp dvs E (tCons tl tNil) σ H Q := hl H (Ex.refl H) _ fun p H1 _ e h1 => k p H1 e h1
theorem run_cE {x1 : V} {t1 : TE} (h1 : Ev t1 σ H x1) (hl : EvL tl σ H xs) (k : ∀ p H1, Ex H H1 → H1 p = some (.lst xs) → sp ([x1, .ref p] ++ dvs) H1 Q E) : tCall sp dvs E (tCons t1 (tCons tl tNil)) σ H Q := h1 H (Ex.refl H) _ fun H1 e1 => hl H1 e1 _ fun p H2 _ e2 g2 => k p H2 (e1.trans e2) g2
end
theorem q_asgR {te : TE} {σ : L2.St} {H : Hp} {tz : TS} {D : Ends} {i : Nat} (h : te σ H fun x H1 => tz D (σ.set i (some x)) H1) : tSeq (tAsg te (gName i)) tz D σ H := h
end Ver
namespace Ver
open PySem PySem.Spec PyProof.Rows L2 Evl
/-! ### words of bits, lists of them -/
def Bw (w : List Nat) : Prop := ∀ c ∈ w, c = 48 ∨ c = 49
theorem Bw.nil : Bw [] := fun c h => by cases h
theorem Bw.app {a b : List Nat} (h : Bw a) (g : Bw b) : Bw (a ++ b) := fun c hc => (List.mem_append.mp hc).elim (h c) (g c)
theorem Bw.one {b : Nat} (h : b < 2) : Bw [48 + b] := fun c hc => by
  rw [List.mem_singleton.mp hc]
  omega
def Tw (P : List Nat → Prop) (x : V) : Prop := ∃ w, x = tx w ∧ P w
theorem tws_map {P : List Nat → Prop} : ∀ {xs : List V}, (∀ x ∈ xs, Tw P x) → ∃ cs : List (List Nat), xs = cs.map tx ∧ ∀ c ∈ cs, P c
  | [], _ => ⟨[], rfl, fun c h => by cases h⟩
  | x :: xs, h => by
    obtain ⟨w, rfl, hw⟩ := h x (List.mem_cons_self ..)
    obtain ⟨cs, rfl, hc⟩ := tws_map fun y hy => h y (List.mem_cons_of_mem _ hy)
    exact ⟨w :: cs, rfl, fun c hc2 => (List.mem_cons.mp hc2).elim (fun e => e ▸ hw) (hc c)⟩
theorem cutV_pre {xs : List V} (n : Nat) : cutV xs none (some (n : Int)) = xs.take n := by
  unfold cutV
  rw [HT.sIx_none, HT.sIx_nat]
  rw [List.drop_zero, Nat.sub_zero]
  by_cases h : n ≤ xs.length
  · rw [Nat.min_eq_left h]
  · rw [Nat.min_eq_right (by omega), List.take_of_length_le (Nat.le_refl _), List.take_of_length_le (by omega)]
theorem cutV_suf {xs : List V} (n : Nat) : cutV xs (some (n : Int)) none = xs.drop n := cutV_from n
/-- a[i % n], any whole numbers in it -/
theorem em_nat {x : Int} {n : Nat} (hn : 0 < n) : x % (n : Int) = (((x % (n : Int)).toNat : Nat) : Int) ∧ (x % (n : Int)).toNat < n := by
  have h1 := Int.emod_nonneg x (show (n : Int) ≠ 0 by omega)
  have h2 := Int.emod_lt_of_pos x (show 0 < (n : Int) by omega)
  exact ⟨by omega, by omega⟩
/-! ### rules made in a loop -/
structure RG (n m : Nat) (R : Tbl) : Prop where
  row : ∀ r ∈ R, r.length = n
  low : ∀ r ∈ R, ∀ a ∈ r, a.1 < m
  bit : ∀ r ∈ R, ∀ a ∈ r, Bw a.2
  len : ∀ r ∈ R, ∀ a ∈ r, a.2.length ≤ 100
theorem RG.nil {n m : Nat} : RG n m [] := ⟨fun r h => by (cases h), fun r h => by (cases h), fun r h => by (cases h), fun r h => by (cases h)⟩
def goodR (m : Nat) (a : Rul) : Prop := a.1 < m ∧ Bw a.2 ∧ a.2.length ≤ 100
theorem RG.snoc {n m : Nat} {R : Tbl} {r : List Rul} (h : RG n m R) (hl : r.length = n) (hg : ∀ a ∈ r, goodR m a) : RG n m (R ++ [r]) := by
  refine ⟨fun q hq => ?_, fun q hq => ?_, fun q hq => ?_, fun q hq => ?_⟩ <;> rcases List.mem_append.mp hq with hq | hq
  · exact h.row q hq
  · rw [List.mem_singleton.mp hq]; exact hl
  · exact h.low q hq
  · rw [List.mem_singleton.mp hq]; exact fun a ha => (hg a ha).1
  · exact h.bit q hq
  · rw [List.mem_singleton.mp hq]; exact fun a ha => (hg a ha).2.1
  · exact h.len q hq
  · rw [List.mem_singleton.mp hq]; exact fun a ha => (hg a ha).2.2
theorem rl_mem {R : Tbl} {n s k : Nat} (hr : ∀ r ∈ R, r.length = n) (hs : s < R.length) (hk : k < n) : R.getD s [] ∈ R ∧ rl R s k ∈ R.getD s [] := by
  have h1 := row_at hs
  have hm := List.mem_of_getElem? h1
  have hl := hr _ hm
  refine ⟨hm, ?_⟩
  unfold rl
  rw [List.getD_eq_getElem?_getD (l := R.getD s []), List.getElem?_eq_getElem (by omega)]
  exact List.getElem_mem _
theorem RG.ok {n m : Nat} {R : Tbl} (h : RG n m R) (hm : R.length = m) (h1 : 1 ≤ m) (h60 : m ≤ 60) : TblOk n R := by
  subst hm
  refine ⟨h1, h60, fun s r hs => h.row r (List.mem_of_getElem? hs), fun s k hs hk => ?_, fun s k hs hk => ?_, fun s k hs hk => ?_⟩ <;> obtain ⟨a, b⟩ := rl_mem h.row hs hk
  · exact h.low _ a _ b
  · exact h.bit _ a _ b
  · exact h.len _ a _ b
/-- the list of rules at l, i rows so far -/
def RWat (H : Hp) (l : Addr) (n m i : Nat) (G : List Rul → Prop) : Prop := ∃ xs R, H l = some (.lst xs) ∧ LsP LineP H xs R ∧ R.length = i ∧ RG n m R ∧ ∀ r ∈ R, G r
theorem RWat.mono {H H' : Hp} {l : Addr} {n m i : Nat} {G : List Rul → Prop} (h : RWat H l n m i G) (e : Ex H H') : RWat H' l n m i G := by
  obtain ⟨xs, R, h1, h2, h3⟩ := h
  exact ⟨xs, R, e _ _ h1, h2.mono line_sol e, h3⟩
section
variable {σ : L2.St} {H : Hp} {K : PySem.W.Frag} {D : Ends} {tz : TS} {ta te tsz t1 t2 : TE} {l : Addr} {n m i : Nat} {G : List Rul → Prop}
theorem RWat.snoc {H1 : Hp} {xs : List V} {R : Tbl} {v : V} {r : List Rul} (h1 : H l = some (.lst xs)) (h2 : LsP LineP H xs R) (h3 : R.length = i) (h4 : RG n m R) (h5 : ∀ r ∈ R, G r) (e : Ex H H1) (hv : LineP r H1 v) (hl : r.length = n) (hg : ∀ a ∈ r, goodR m a) (hG : G r) : RWat (L2.upd H1 l (.lst (xs ++ [v]))) l n m (i + 1) G := by
  have g := e _ _ h1
  exact ⟨xs ++ [v], R ++ [r], upd_same, ((h2.mono line_sol e).upd line_sol g).snoc (line_sol.upd g hv), by rw [List.length_append, h3]; rfl, h4.snoc hl hg, fun q hq => (List.mem_append.mp hq).elim (h5 q) fun hq => by rw [List.mem_singleton.mp hq]; exact hG⟩
/-- rules.append(a row) -/
theorem s_appRow {r : List Rul} (h : RWat H l n m i G) (hi : i ≤ 1000) (ha : Ev ta σ H (.ref l)) (hr : EvP te σ H (LineP r)) (hl : r.length = n) (hg : ∀ a ∈ r, goodR m a) (hG : G r) (k : ∀ H1, Ex H H1 → ∀ ys, RWat (L2.upd H1 l (.lst ys)) l n m (i + 1) G → D.nx σ (L2.upd H1 l (.lst ys))) :
    tDrop (tBM K "list" rAppend ta (tCons te tNil)) D σ H := by
  obtain ⟨xs, R, h1, h2, h3, h4, h5⟩ := h
  have hx := h2.len
  exact s_appP h1 ha hr (by omega) fun v H1 e hv => k H1 e _ (RWat.snoc h1 h2 h3 h4 h5 e hv hl hg hG)
theorem q_appRow {r : List Rul} (h : RWat H l n m i G) (hi : i ≤ 1000) (ha : Ev ta σ H (.ref l)) (hr : EvP te σ H (LineP r)) (hl : r.length = n) (hg : ∀ a ∈ r, goodR m a) (hG : G r) (k : ∀ H1, Ex H H1 → ∀ ys, RWat (L2.upd H1 l (.lst ys)) l n m (i + 1) G → tz D σ (L2.upd H1 l (.lst ys))) :
    tSeq (tDrop (tBM K "list" rAppend ta (tCons te tNil))) tz D σ H := s_appRow (D := { D with nx := tz D }) h hi ha hr hl hg hG k
/-- tuple([(.., ..) for k in range(size)]) -/
theorem ep_line {tr : TA} {j : Nat} {vs : List Nat} (f : Nat → Rul) (h : EvA tr σ H [.int (n : Int)]) (hn : n ≤ 1000) (hw : ∀ x, wipe ((wipe σ vs).set j (some x)) vs = wipe σ vs) (h1 : ∀ (k : Nat) H1, Ex H H1 → k < n → Ev t1 ((wipe σ vs).set j (some (.int (k : Int)))) H1 (.int ((f k).1 : Int))) (h2 : ∀ (k : Nat) H1, Ex H H1 → k < n → Ev t2 ((wipe σ vs).set j (some (.int (k : Int)))) H1 (tx (f k).2)) :
    EvP (tCB (fun xs H Q => ∃ p ys, xs = [.ref p] ∧ ((SqL K H p ys ∧ ∀ l, H l = none → Q (.ref l) (L2.upd H l (.tup ys))) ∨ (SqT K H p ys ∧ Q (.ref p) H))) (tCons (tLc (iRng1 tr) (gName j) tYes (tTup (tCons t1 (tCons t2 tNil))) vs) tNil)) σ H (LineP ((List.range n).map f)) :=
  ep_tup pair_sol (ep_lcR pair_sol f h (by omega) hw fun k H1 e hk => ep_pair (h1 k H1 e hk) (h2 k H1 e hk))
/-- return tuple(rules) -/
theorem s_retRules (h : RWat H l n m i G) (ha : Ev ta σ H (.ref l)) (k : ∀ v R H1, Ex H H1 → TabP R H1 v → R.length = i → RG n m R → (∀ r ∈ R, G r) → D.rt v H1) : tRet (tCB (fun xs H Q => ∃ p ys, xs = [.ref p] ∧ ((SqL K H p ys ∧ ∀ l, H l = none → Q (.ref l) (L2.upd H l (.tup ys))) ∨ (SqT K H p ys ∧ Q (.ref p) H))) (tCons ta tNil)) D σ H := by
  obtain ⟨xs, R, h1, h2, h3, h4, h5⟩ := h
  exact s_retP (ep_tup line_sol (P := LineP) (as := R) (EvP.of_ev ha fun H1 e => ⟨l, xs, rfl, e _ _ h1, h2.mono line_sol e⟩)) fun v H1 e hv => k v R H1 e hv h3 h4 h5
end
theorem given_ally {v : Nat → V} : ∀ n : Nat, given n (fun _ => true) v = (List.range n).map v
  | 0 => rfl
  | n + 1 => by
    rw [given_yes rfl, given_ally n, List.range_succ, List.map_append]
    rfl
theorem el_lcRy {σ : L2.St} {H : Hp} {te : TE} {tr : TA} {j : Nat} {vs : List Nat} {n : Nat} (v : Nat → V) (h : EvA tr σ H [.int (n : Int)]) (hn : n ≤ 40000) (hw : ∀ x, wipe ((wipe σ vs).set j (some x)) vs = wipe σ vs)
    (he : ∀ (i : Nat) H1, Ex H H1 → i < n → Ev te ((wipe σ vs).set j (some (.int (i : Int)))) H1 (v i)) : EvL (tLc (iRng1 tr) (gName j) tYes te vs) σ H ((List.range n).map v) := by
  have g := el_lcR1 (t := tYes) (te := te) (fun _ => true) v h (by omega) hw (fun i H2 e2 hi => et_yes) (fun i H2 e2 hi _ => he i H2 e2 (by omega))
  rw [Int.toNat_natCast, given_ally] at g
  exact g
/-- a call whose argument is a value and whose promise is told freely -/
theorem q_callQ {σ : L2.St} {H : Hp} {D : Ends} {tz : TS} {sp : Sp} {E : XK} {ta : TA} {vs dvs : List V} {i : Nat} (h : EvA ta σ H vs) (k : ∀ H1, Ex H H1 → sp (vs ++ dvs) H1 (fun x H2 => tz D (σ.set i (some x)) H2) E) : tSeq (tAsg (tCall sp dvs E ta) (gName i)) tz D σ H := h H (Ex.refl H) _ k
theorem q_call2L {σ : L2.St} {H : Hp} {D : Ends} {tz : TS} {sp : Sp} {dvs xs : List V} {y : V} {E : XK} {ta tl : TE} {i : Nat} (ha : Ev ta σ H y) (hl : ∀ H1, Ex H H1 → EvL tl σ H1 xs) (k : ∀ p H1, Ex H H1 → H1 p = some (.lst xs) → sp ([y, .ref p] ++ dvs) H1 (fun x H2 => tz D (σ.set i (some x)) H2) E) : tSeq (tAsg (tCall sp dvs E (tCons ta (tCons tl tNil))) (gName i)) tz D σ H :=
  ha H (Ex.refl H) _ fun H1 e1 => hl H1 e1 H1 (Ex.refl H1) _ fun p H2 hp e2 h2 => k p H2 (e1.trans e2) h2
theorem s_retCall {σ : L2.St} {H : Hp} {D : Ends} {sp : Sp} {E : XK} {ta : TA} {vs dvs : List V} (h : EvA ta σ H vs) (k : ∀ H1, Ex H H1 → sp (vs ++ dvs) H1 D.rt E) : tRet (tCall sp dvs E ta) D σ H := h H (Ex.refl H) _ k
theorem range_map_len {n : Nat} {f : Nat → Rul} : ((List.range n).map f).length = n := by
  rw [List.length_map, List.length_range]
theorem range_map_all {n : Nat} {f : Nat → Rul} {P : Rul → Prop} (h : ∀ k, k < n → P (f k)) : ∀ a ∈ (List.range n).map f, P a := fun a ha => by
  obtain ⟨k, hk, rfl⟩ := List.mem_map.mp ha
  exact h k (List.mem_range.mp hk)
/-- what a def that makes rules promises -/
def RetTab (H : Hp) (Q : VK) (R : Tbl) : Prop := ∀ v H2, Ex H H2 → TabP R H2 v → Q v H2
end Ver
namespace Ver
open PySem PySem.Spec PyProof.Rows L2 Evl
section
variable {P : Program} {w : World} {K : PySem.W.Frag} {mg : Str → Option Value} {base : Heap} {C_Machine : Addr}
/-! ### _law_code -/
def cdW (c : List Nat) : Prop := Bw c ∧ 1 ≤ c.length ∧ c.length ≤ 8
def spCode (K : PySem.W.Frag) : Sp := fun vs H Q _ => ∃ (a : Addr) (r : List Int) (m : Nat), vs = [.int (m : Int), .ref a] ∧ 1 ≤ m ∧ m ≤ 6 ∧ SqL K H a (r.map V.int) ∧ 8 ≤ r.length ∧ ∀ cs : List (List Nat), cs.length = m → (∀ c ∈ cs, cdW c) → RetL (cs.map tx) H Q
def twI (i : Nat) (c : List Nat) : Prop := Bw c ∧ (1 ≤ i → 1 ≤ c.length) ∧ c.length ≤ i
theorem mem_cut {xs : List V} {lo hi : Option Int} {x : V} (h : x ∈ cutV xs lo hi) : x ∈ xs := List.mem_of_mem_drop (List.mem_of_mem_take h)
theorem has_code (F : At K mg "_law_code" s__law_code) (T : Top K mg C_Machine) : Has P w K mg base "_law_code" s__law_code ["many", "row"] 1 (spCode K) := by
  obtain ⟨f, fd, F, m⟩ := F.ex
  refine ⟨f, fd, F, F.ok S__law_code (fun vs H Q E h => ?_) (fun cdv A outer s H vs Q E hr h => ?_), F.binds fun _ _ _ _ _ _ us hl => match us, hl with | [_, _], _ => rfl, m, F.kp⟩
  · obtain ⟨a, r, m, rfl, _⟩ := h
    rfl
  obtain ⟨a, r, m, rfl, m1, m6, hR, hl, q⟩ := h
  refine ⟨_, (pss_cons
    (ps_if (pt_cmpR op_eq (pv 0) pe_int (nomark _)) (pss_one
    (ps_ret (pe_lst (pa_cons (pe_ix (r := rIxL K) ix_list (pe_lst (pa_cons pe_str (pa_cons pe_str (pa_cons pe_str pa_nil)))) (pe_op op_mod (pe_callTy call_int1 rfl T.z_int (by decide +kernel) (pa_cons (pe_ix (r := rIxL K) ix_list (pv 1) pe_int (fun _ _ => rfl)) pa_nil)) pe_int) (fun _ _ => rfl)) pa_nil)))) pss_nil)
    (pss_cons
    (ps_set (i := 2) S__law_code.nd rfl (Or.inl rfl) (pe_lst (pa_cons pe_str pa_nil)))
    (pss_cut
    (ps_for PassesOwn.never rfl (pi_range1 rfl T.z_range (pa_cons pe_int pa_nil)) (pg_name (i := 3) S__law_code.nd rfl (Or.inl rfl)) (pss_cons
    (ps_if (pt_cmpR op_ge (pe_callB call_len_seq rfl T.z_len PySem.boot_len (pa_cons (pv 2) pa_nil)) (pv 0) (nomark _)) (pss_one
    ps_break) pss_nil)
    (pss_cons
    (ps_set (i := 4) S__law_code.nd rfl (Or.inl rfl) (pe_op op_mod (pe_callTy call_int1 rfl T.z_int (by decide +kernel) (pa_cons (pe_ix (r := rIxL K) ix_list (pv 1) (pv 3) (fun _ _ => rfl)) pa_nil)) (pe_callB call_len_seq rfl T.z_len PySem.boot_len (pa_cons (pv 2) pa_nil))))
    (pss_cons
    (ps_set (i := 5) S__law_code.nd rfl (Or.inl rfl) (pe_ix (r := rIxL K) ix_list (pv 2) (pv 4) (fun _ _ => rfl)))
    (pss_one
    (ps_set (i := 2) S__law_code.nd rfl (Or.inl rfl) (pe_op op_cat (pe_op op_cat (pe_slice sl_list (pv 2) po_none (po_some (pv 4))) (pe_lst (pa_cons (pe_op op_add_str (pv 5) pe_str) (pa_cons (pe_op op_add_str (pv 5) pe_str) pa_nil)))) (pe_slice sl_list (pv 2) (po_some (pe_op op_add (pv 4) pe_int)) po_none))))))))
    (pss_cons
    (ps_if (pt_cmpR op_eq (pe_op op_mod (pe_callTy call_int1 rfl T.z_int (by decide +kernel) (pa_cons (pe_ix (r := rIxL K) ix_list (pv 1) pe_int (fun _ _ => rfl)) pa_nil)) pe_int) pe_int (nomark _)) (pss_cons
    (ps_set (i := 4) S__law_code.nd rfl (Or.inl rfl) (pe_op op_mod (pe_callTy call_int1 rfl T.z_int (by decide +kernel) (pa_cons (pe_ix (r := rIxL K) ix_list (pv 1) pe_int (fun _ _ => rfl)) pa_nil)) (pv 0)))
    (pss_cons
    (ps_set (i := 5) S__law_code.nd rfl (Or.inl rfl) (pe_op op_add_str (pe_ix (r := rIxL K) ix_list (pv 2) (pv 4) (fun _ _ => rfl)) (pe_callTy call_str_int rfl T.z_str (by decide +kernel) (pa_cons (pe_op op_mod (pe_callTy call_int1 rfl T.z_int (by decide +kernel) (pa_cons (pe_ix (r := rIxL K) ix_list (pv 1) pe_int (fun _ _ => rfl)) pa_nil)) pe_int) pa_nil))))
    (pss_one
    (ps_set (i := 2) S__law_code.nd rfl (Or.inl rfl) (pe_op op_cat (pe_op op_cat (pe_slice sl_list (pv 2) po_none (po_some (pv 4))) (pe_lst (pa_cons (pv 5) pa_nil))) (pe_slice sl_list (pv 2) (po_some (pe_op op_add (pv 4) pe_int)) po_none)))))) pss_nil)
    (pss_cons
    (ps_set (i := 6) S__law_code.nd rfl (Or.inl rfl) (pe_op op_mod (pe_callTy call_int1 rfl T.z_int (by decide +kernel) (pa_cons (pe_ix (r := rIxL K) ix_list (pv 1) pe_int (fun _ _ => rfl)) pa_nil)) (pv 0)))
    (pss_one
    (ps_ret (pe_op op_cat (pe_slice sl_list (pv 2) (po_some (pv 6)) po_none) (pe_slice sl_list (pv 2) po_none (po_some (pv 6))))))))))), ?_⟩
  have rw' : ∀ {σ : L2.St} {H' : Hp} {i : Nat} {z : Int} {te : TE}, Ex H H' → i < 8 → z = (i : Int) → σ[1]? = some (some (.ref a)) → Ev te σ H' (.int z) → Ev (tCB (fun xs H Q => (∃ i, xs = [V.int i] ∧ Q (.int i) H) ∨ ∃ k, xs = [V.bl k] ∧ Q (.int (if k then 1 else 0)) H) (tCons (tOp (rIxL K) (tVar 1) te) tNil)) σ H' (.int (at0 r i)) := fun e hi hz hs h => ev_int (ev_atI (ex_l e hR) (by omega) hz (ev_var hs) h)
  refine q_when (et_eqI (ev_var rfl) ev_c) (fun hb H1 e1 => ?_) (fun hb H1 e1 => ?_)
  · have c : (m : Int) = 1 := of_decide_eq_true hb
    obtain ⟨k, hk, ek⟩ := int_mod (x := at0 r 0) (n := 3) (by decide)
    have hc : ∃ cw : List Nat, [tx [48], tx [49], tx [48, 49]][k]? = some (tx cw) ∧ cdW cw := by
      match k, hk with
      | 0, _ => exact ⟨[48], rfl, fun c hc => by simp at hc; omega, by decide, by decide⟩
      | 1, _ => exact ⟨[49], rfl, fun c hc => by simp at hc; omega, by decide, by decide⟩
      | 2, _ => exact ⟨[48, 49], rfl, fun c hc => by simp at hc; omega, by decide, by decide⟩
    obtain ⟨cw, h1, h2⟩ := hc
    have g := q [cw] (by show 1 = m; omega) (fun c hc => by rw [List.mem_singleton.mp hc]; exact h2)
    refine s_retL (xs := [tx cw]) (el_lst (ea_cons (ev_opL1 (xs := [tx [48], tx [49], tx [48, 49]]) (y := .int (k : Int)) (el_lst (ea_cons (ev_is ev_c (show V.str (Str.ofString "0") = tx [48] from by rw [show Str.ofString "0" = SX.S [48] from by decide +kernel])) (ea_cons (ev_is ev_c (show V.str (Str.ofString "1") = tx [49] from by rw [show Str.ofString "1" = SX.S [49] from by decide +kernel])) (ea_cons (ev_is ev_c (show V.str (Str.ofString "01") = tx [48, 49] from by rw [show Str.ofString "01" = SX.S [48, 49] from by decide +kernel])) ea_nil))) (by show 3 ≤ 100000; decide)) (fun H2 e2 => ev_is (ev_mod (by decide) (rw' (e1.trans e2) (by decide) rfl rfl ev_c) ev_c) (by rw [show at0 r 0 % 3 = (k : Int) from ek])) fun p H3 h3 e3 => rv_ixL (sq_of h3) (atI_nat h1)) ea_nil) (by show 1 ≤ 100000; decide)) fun p H2 hp e2 h2' => g p H2 (fresh_back e1 hp) (e1.trans e2) h2'
  · have c : ¬ (m : Int) = 1 := of_decide_eq_false hb
    refine q_asgL (xs := [tx []]) (el_lst (ea_cons (ev_is ev_c (by rw [mt_is])) ea_nil) (by show 1 ≤ 100000; decide)) fun l H2 hl2 e2 h2 => ?_
    have e12 := e1.trans e2
    refine q_cut (M := fun σ' H' => ∃ (l : Addr) (xs : List V) (u3 u4 u5 : Option V), σ' = [some (.int (m : Int)), some (.ref a), some (.ref l), u3, u4, u5, none] ∧ Ex H H' ∧ H' l = some (.lst xs) ∧ xs.length = m ∧ ∀ x ∈ xs, Tw (fun c => Bw c ∧ 1 ≤ c.length ∧ c.length ≤ 6) x) ?_ ?_
    · refine s_forR1 (ea_cons ev_c ea_nil) (by decide) (fun i σ' H' => ∃ (l : Addr) (xs : List V) (u3 u4 u5 : Option V), σ' = [some (.int (m : Int)), some (.ref a), some (.ref l), u3, u4, u5, none] ∧ Ex H H' ∧ H' l = some (.lst xs) ∧ xs.length = i + 1 ∧ i + 1 ≤ m ∧ ∀ x ∈ xs, Tw (twI i) x) ?_ ?_ ?_
      · intro H3 e3
        exact ⟨l, [tx []], none, none, none, rfl, e12.trans e3, e3 _ _ h2, rfl, by omega, fun x hx => by rw [List.mem_singleton.mp hx]; exact ⟨[], rfl, Bw.nil, fun h => absurd h (by decide), Nat.le_refl 0⟩⟩
      · rintro i σ' H' hi ⟨l, xs, u3, u4, u5, rfl, e3, g3, hx, him, hw⟩
        have hxl : ((xs.length : Nat) : Int) = ((i + 1 : Nat) : Int) := by rw [hx]
        refine q_when (et_ge (ev_cb (ea_cons (ev_var rfl) ea_nil) (rc_lenL (sq_of g3))) (ev_var rfl)) (fun hb H3 e4 => ?_) (fun hb H3 e4 => ?_)
        · have hge := of_decide_eq_true hb
          exact ⟨l, xs, _, u4, u5, rfl, e3.trans e4, e4 _ _ g3, by omega, fun x hx => by
            obtain ⟨w, rfl, h1, h2, h3⟩ := hw x hx
            exact ⟨w, rfl, h1, h2 (by omega), by omega⟩⟩
        · have hlt := of_decide_eq_false hb
          obtain ⟨k, hk, ek⟩ := int_mod (x := at0 r i) (n := i + 1) (by omega)
          have e34 := e3.trans e4
          refine q_asg (v := .int (k : Int)) (ev_is (ev_mod (j := ((i + 1 : Nat) : Int)) (by omega) (rw' e34 (by omega) rfl rfl (ev_var rfl)) (ev_is (ev_cb (ea_cons (ev_var rfl) ea_nil) (rc_lenL (sq_of (e4 _ _ g3)))) (by rw [hxl]))) (by rw [ek])) fun H4 e5 => ?_
          have hkx : xs[k]? = some (xs[k]'(by omega)) := List.getElem?_eq_getElem (by omega)
          obtain ⟨wd, hwd, w1, w2, w3⟩ := hw _ (List.getElem_mem (show k < xs.length by omega))
          rw [hwd] at hkx
          have g5 := e5 _ _ (e4 _ _ g3)
          refine q_asg (v := tx wd) (ev_op (ev_var rfl) (ev_var rfl) (rv_ixL (sq_of g5) (atI_nat hkx))) fun H5 e6 => ?_
          have g6 := e6 _ _ g5
          have c0 : ∀ {σ : L2.St} {H' : Hp}, σ[5]? = some (some (tx wd)) → Ev (tOp (fun x y H Q => ∃ a b : Str, x = .str a ∧ y = .str b ∧ a.length + b.length ≤ sizeLine ∧ Q (.str (a ++ b)) H) (tVar 5) (tC (.str (Str.ofString "0")))) σ H' (tx (wd ++ [48])) := fun h => ev_catS (b := [48]) (by show _ + 1 ≤ 100000; omega) (ev_var h) (ev_is ev_c (by rw [show Str.ofString "0" = SX.S [48] from by decide +kernel]))
          have c1 : ∀ {σ : L2.St} {H' : Hp}, σ[5]? = some (some (tx wd)) → Ev (tOp (fun x y H Q => ∃ a b : Str, x = .str a ∧ y = .str b ∧ a.length + b.length ≤ sizeLine ∧ Q (.str (a ++ b)) H) (tVar 5) (tC (.str (Str.ofString "1")))) σ H' (tx (wd ++ [49])) := fun h => ev_catS (b := [49]) (by show _ + 1 ≤ 100000; omega) (ev_var h) (ev_is ev_c (by rw [show Str.ofString "1" = SX.S [49] from by decide +kernel]))
          have t1 : (cutV xs none (some (k : Int))).length = k := by
            rw [cutV_pre, List.length_take]
            omega
          have t2 : (cutV xs (some ((k + 1 : Nat) : Int)) none).length = i - k := by
            rw [cutV_suf, List.length_drop]
            omega
          refine s_asgL (xs := (cutV xs none (some (k : Int)) ++ [tx (wd ++ [48]), tx (wd ++ [49])]) ++ cutV xs (some ((k + 1 : Nat) : Int)) none) (el_catL (el_catL (el_sl (ev_var rfl) eo_none (eo_some (ev_var rfl)) (sq_of g6)) (el_lst (ea_cons (c0 rfl) (ea_cons (c1 rfl) ea_nil)) (by show 2 ≤ 100000; decide)) (by rw [t1]; show k + 2 ≤ 100000; omega)) (el_sl (ev_var rfl) (eo_some (ev_is (ev_add (ev_var rfl) ev_c) (by rw [Int.natCast_add] <;> rfl))) eo_none (sq_of g6)) (by rw [List.length_append, t1, t2]; show k + 2 + (i - k) ≤ 100000; omega)) fun l2 H6 hl6 e7 g7 => ?_
          refine ⟨l2, _, _, _, _, rfl, ((e34.trans e5).trans e6).trans e7, g7, ?_, by omega, fun x hx => ?_⟩
          · rw [List.length_append, List.length_append, t1, t2]
            show k + 2 + (i - k) = _
            omega
          · rcases List.mem_append.mp hx with hx | hx
            · rcases List.mem_append.mp hx with hx | hx
              · by_cases z : i = 0
                · have : k = 0 := by omega
                  rw [this, cutV_pre, List.take_zero] at hx
                  cases hx
                · obtain ⟨w, rfl, h1, h2, h3⟩ := hw x (mem_cut hx)
                  exact ⟨w, rfl, h1, fun _ => h2 (by omega), by omega⟩
              · rcases List.mem_cons.mp hx with rfl | hx
                · exact ⟨_, rfl, w1.app (Bw.one (b := 0) (by decide)), fun _ => by rw [List.length_append]; show 1 ≤ _ + 1; omega, by rw [List.length_append]; show _ + 1 ≤ _; omega⟩
                · rw [List.mem_singleton.mp hx]
                  exact ⟨_, rfl, w1.app (Bw.one (b := 1) (by decide)), fun _ => by rw [List.length_append]; show 1 ≤ _ + 1; omega, by rw [List.length_append]; show _ + 1 ≤ _; omega⟩
            · by_cases z : i = 0
              · have hx0 : xs.length ≤ k + 1 := by omega
                rw [cutV_suf, List.drop_of_length_le hx0] at hx
                cases hx
              · obtain ⟨w, rfl, h1, h2, h3⟩ := hw x (mem_cut hx)
                exact ⟨w, rfl, h1, fun _ => h2 (by omega), by omega⟩
      · rintro σ' H' ⟨l, xs, u3, u4, u5, rfl, e3, g3, hx, him, hw⟩
        have : (6 : Int).toNat = 6 := rfl
        omega
    · rintro σ' H' ⟨l, xs, u3, u4, u5, rfl, e3, g3, hx, hw⟩
      have fin : ∀ (l : Addr) (xs : List V) (u3 u4 u5 : Option V) (H' : Hp), Ex H H' → H' l = some (.lst xs) → xs.length = m → (∀ x ∈ xs, Tw cdW x) → tSeq (tAsg (tOp (rI (fun _ j => 0 < j) fun i j => .int (i % j)) (tCB (fun xs H Q => (∃ i, xs = [V.int i] ∧ Q (.int i) H) ∨ ∃ k, xs = [V.bl k] ∧ Q (.int (if k then 1 else 0)) H) (tCons (tOp (rIxL K) (tVar 1) (tC (.int 5))) tNil)) (tVar 0)) (gName 6)) (tRet (tOp rCat (tSl (rSlL K) (tVar 2) (tPart (tVar 6)) tNoPart) (tSl (rSlL K) (tVar 2) tNoPart (tPart (tVar 6))))) { nx := fun _ H' => Q .non H', rt := Q } [some (.int (m : Int)), some (.ref a), some (.ref l), u3, u4, u5, none] H' := by
        intro l xs u3 u4 u5 H' e3 g3 hx hw
        obtain ⟨k, hk, ek⟩ := int_mod (x := at0 r 5) (n := m) (by omega)
        refine q_asg (v := .int (k : Int)) (ev_is (ev_mod (j := (m : Int)) (by omega) (rw' e3 (by decide) rfl rfl ev_c) (ev_var rfl)) (by rw [ek])) fun H4 e4 => ?_
        have g4 := e4 _ _ g3
        have hlen : (cutV xs (some (k : Int)) none ++ cutV xs none (some (k : Int))).length = m := by
          rw [List.length_append, cutV_suf, cutV_pre, List.length_drop, List.length_take]
          omega
        obtain ⟨cs, ecs, hcs⟩ := tws_map (P := cdW) (xs := cutV xs (some (k : Int)) none ++ cutV xs none (some (k : Int))) fun x hx => (List.mem_append.mp hx).elim (fun h => hw x (mem_cut h)) (fun h => hw x (mem_cut h))
        have g := q cs (by rw [← hlen, ecs, List.length_map]) hcs
        rw [← ecs] at g
        exact s_retL (el_catL (el_sl (ev_var rfl) (eo_some (ev_var rfl)) eo_none (sq_of g4)) (el_sl (ev_var rfl) eo_none (eo_some (ev_var rfl)) (sq_of g4)) (by rw [List.length_append] at hlen; omega)) fun p H5 hp e5 h5 => g p H5 (fresh_back (e3.trans e4) hp) ((e3.trans e4).trans e5) h5
      refine q_when (et_eqI (ev_mod (by decide) (rw' (i := 6) e3 (by decide) rfl rfl ev_c) ev_c) ev_c) (fun hb H4 e4 => ?_) (fun hb H4 e4 => ?_)
      · obtain ⟨k, hk, ek⟩ := int_mod (x := at0 r 7) (n := m) (by omega)
        have e34 := e3.trans e4
        refine q_asg (v := .int (k : Int)) (ev_is (ev_mod (j := (m : Int)) (by omega) (rw' e34 (by decide) rfl rfl ev_c) (ev_var rfl)) (by rw [ek])) fun H5 e5 => ?_
        have g5 := e5 _ _ (e4 _ _ g3)
        have hkx : xs[k]? = some (xs[k]'(by omega)) := List.getElem?_eq_getElem (by omega)
        obtain ⟨wd, hwd, w1, w2, w3⟩ := hw _ (List.getElem_mem (show k < xs.length by omega))
        rw [hwd] at hkx
        obtain ⟨b, hb2, eb⟩ := int_mod (x := at0 r 5) (n := 2) (by decide)
        refine q_asg (v := tx (wd ++ [48 + b])) (ev_catS (b := [48 + b]) (by show _ + 1 ≤ 100000; omega) (ev_op (ev_var rfl) (ev_var rfl) (rv_ixL (sq_of g5) (atI_nat hkx))) (ev_strBit hb2 (ev_is (ev_mod (by decide) (rw' (e34.trans e5) (by decide) rfl rfl ev_c) ev_c) (by rw [show at0 r 5 % 2 = (b : Int) from eb])))) fun H6 e6 => ?_
        have g6 := e6 _ _ g5
        have t1 : (cutV xs none (some (k : Int))).length = k := by
          rw [cutV_pre, List.length_take]
          omega
        have t2 : (cutV xs (some ((k + 1 : Nat) : Int)) none).length = m - (k + 1) := by
          rw [cutV_suf, List.length_drop, hx]
        refine s_asgL (xs := (cutV xs none (some (k : Int)) ++ [tx (wd ++ [48 + b])]) ++ cutV xs (some ((k + 1 : Nat) : Int)) none) (el_catL (el_catL (el_sl (ev_var rfl) eo_none (eo_some (ev_var rfl)) (sq_of g6)) (el_lst (ea_cons (ev_var rfl) ea_nil) (by show 1 ≤ 100000; decide)) (by rw [t1]; show k + 1 ≤ 100000; omega)) (el_sl (ev_var rfl) (eo_some (ev_is (ev_add (ev_var rfl) ev_c) (by rw [Int.natCast_add] <;> rfl))) eo_none (sq_of g6)) (by rw [List.length_append, t1, t2]; show k + 1 + (m - (k + 1)) ≤ 100000; omega)) fun l2 H7 hl7 e7 g7 => ?_
        refine fin l2 _ _ _ _ H7 (((e34.trans e5).trans e6).trans e7) g7 ?_ fun x hx => ?_
        · rw [List.length_append, List.length_append, t1, t2]
          show k + 1 + (m - (k + 1)) = m
          omega
        · rcases List.mem_append.mp hx with hx | hx
          · rcases List.mem_append.mp hx with hx | hx
            · obtain ⟨w, rfl, h1, h2, h3⟩ := hw x (mem_cut hx)
              exact ⟨w, rfl, h1, h2, by omega⟩
            · rw [List.mem_singleton.mp hx]
              exact ⟨_, rfl, w1.app (Bw.one hb2), by rw [List.length_append]; show 1 ≤ _ + 1; omega, by rw [List.length_append]; show _ + 1 ≤ _; omega⟩
          · obtain ⟨w, rfl, h1, h2, h3⟩ := hw x (mem_cut hx)
            exact ⟨w, rfl, h1, h2, by omega⟩
      · exact fin l xs u3 u4 u5 H4 (e3.trans e4) (e4 _ _ g3) hx fun x hx => by
          obtain ⟨w, rfl, h1, h2, h3⟩ := hw x hx
          exact ⟨w, rfl, h1, h2, by omega⟩
end
end Ver
namespace Ver
open PySem PySem.Spec PyProof.Rows L2 Evl
/-- a row of digits -/
def Dg (r : List Int) : Prop := ∀ i, i < r.length → 0 ≤ at0 r i ∧ at0 r i < 1000
theorem Dg.at {r : List Int} (h : Dg r) (i : Nat) : 0 ≤ at0 r i ∧ at0 r i < 1000 := by
  by_cases c : i < r.length
  · exact h i c
  · have : at0 r i = 0 := by
      unfold at0
      rw [List.getD_eq_getElem?_getD, List.getElem?_eq_none (by omega)]
      rfl
    omega
theorem code_get {cs : List (List Nat)} {k : Nat} (h : k < cs.length) : (cs.map tx)[k]? = some (tx (cs.getD k [])) := by
  rw [List.getElem?_map, List.getElem?_eq_getElem h, List.getD_eq_getElem?_getD, List.getElem?_eq_getElem h]
  rfl
theorem code_in {cs : List (List Nat)} {k : Nat} (h : k < cs.length) : cs.getD k [] ∈ cs := by
  rw [List.getD_eq_getElem?_getD, List.getElem?_eq_getElem h]
  exact List.getElem_mem h
section
variable {P : Program} {w : World} {K : PySem.W.Frag} {mg : Str → Option Value} {base : Heap} {C_Machine : Addr}
/-! ### _law_bits -/
def btw (n : Nat) (s : Int) : List Nat := (List.range n).map fun k : Nat => 48 + (s / ((k : Int) + 1) % 2).toNat
theorem btw_len {n : Nat} {s : Int} : (btw n s).length = n := by
  unfold btw
  rw [List.length_map, List.length_range]
theorem btw_bw {n : Nat} {s : Int} : Bw (btw n s) := fun c hc => by
  obtain ⟨k, hk, rfl⟩ := List.mem_map.mp hc
  omega
def spBt : Sp := fun vs H Q _ => ∃ (n : Nat) (s : Int), vs = [.int (n : Int), .int s] ∧ n ≤ 1000 ∧ RetV (tx (btw n s)) H Q
theorem has_bt (F : At K mg "_law_bits" s__law_bits) (T : Top K mg C_Machine) : Has P w K mg base "_law_bits" s__law_bits ["wide", "seed"] 1 spBt := by
  obtain ⟨f, fd, F, m⟩ := F.ex
  refine ⟨f, fd, F, F.ok S__law_bits (fun vs H Q E h => ?_) (fun cdv A outer s H vs Q E hr h => ?_), F.binds fun _ _ _ _ _ _ us hl => match us, hl with | [_, _], _ => rfl, m, F.kp⟩
  · obtain ⟨n, s, rfl, _⟩ := h
    rfl
  obtain ⟨n, s, rfl, hn, q⟩ := h
  refine ⟨_, (pss_one
    (ps_ret (pe_join pe_str (pe_lc (own := [("k", 2)]) (g := gName 2) (tt := tYes) rfl S__law_bits.nd (pi_range1 rfl T.z_range (pa_cons (pv 0) pa_nil)) (blkOk_by (N := N__law_bits) (sc := defScope s__law_bits) (by decide +kernel)) (fun _ _ _ _ _ => pg_name (i := 2) S__law_bits.nd rfl (Or.inl rfl)) (fun _ _ _ _ _ => pts_nil) (fun _ _ _ _ _ => (pe_ix ix_str pe_str (pe_op op_mod (pe_callTy call_int1 rfl T.z_int (by decide +kernel) (pa_cons (pe_op op_fdivW (pv 1) (pe_op op_add (pv 2) pe_int)) pa_nil)) pe_int) (fun _ _ => rfl))))))), ?_⟩
  let b : Nat → Nat := fun k => (s / ((k : Int) + 1) % 2).toNat
  have hb : ∀ k, b k < 2 ∧ s / ((k : Int) + 1) % 2 = ((b k : Nat) : Int) := fun k => by
    obtain ⟨h1, h2⟩ := em_nat (x := s / ((k : Int) + 1)) (n := 2) (by decide)
    exact ⟨h2, h1⟩
  have g := q
  have ef := flat_sing ((List.range n).map fun k => 48 + b k)
  refine s_ret (v := tx ((List.range n).map fun k => 48 + b k)) (ev_is (ev_joinLB (ps := ((List.range n).map fun k => 48 + b k).map fun c => [c]) (ev_is ev_c (by rw [mt_is])) ?_ (by rw [ef, List.length_map, List.length_range]; omega)) (by rw [ef])) g
  have em : (((List.range n).map fun k => 48 + b k).map fun c => [c]).map tx = (List.range n).map fun k => tx [48 + b k] := by
    rw [List.map_map, List.map_map]
    rfl
  rw [em]
  refine el_lcRy (fun k => tx [48 + b k]) (ea_cons (ev_var rfl) ea_nil) (by omega) (fun x => rfl) fun k H1 e1 hk => ?_
  have h01 : ([48, 49] : List Nat)[b k]? = some (48 + b k) := by
    have := (hb k).1
    match b k, this with
    | 0, _ => rfl
    | 1, _ => rfl
  exact ev_ixS (l := [48, 49]) (by decide) h01 (ev_is ev_c (by rw [show Str.ofString "01" = SX.S [48, 49] from by decide +kernel])) (ev_is (ev_mod (j := 2) (by decide) (ev_int (ev_div (by omega) (by omega) (ev_var rfl) (ev_add (ev_var rfl) ev_c))) ev_c) (by rw [(hb k).2]))
theorem sv_bt {n : Nat} {s : Int} {H : Hp} (hn : n ≤ 1000) : SpV spBt ([.int (n : Int), .int s] ++ []) H (tx (btw n s)) := fun _ _ _ q _ => ⟨n, s, rfl, hn, q⟩
/-! ### _law_ring_rules -/
def spRing (K : PySem.W.Frag) : Sp := fun vs H Q _ => ∃ (a : Addr) (r : List Int) (n m : Nat), vs = [.int (n : Int), .ref a, .int (m : Int)] ∧ 1 ≤ n ∧ n ≤ 6 ∧ 1 ≤ m ∧ m ≤ 60 ∧ SqL K H a (r.map V.int) ∧ 60 ≤ r.length ∧ Dg r ∧ ∀ R : Tbl, R.length = m → RG n m R → (∀ q ∈ R, ∀ x ∈ q, 1 ≤ x.2.length) → RetTab H Q R
theorem has_ring (F : At K mg "_law_ring_rules" s__law_ring_rules) (T : Top K mg C_Machine) (h1 : Has P w K mg base "_law_code" s__law_code ["many", "row"] 1 (spCode K)) : Has P w K mg base "_law_ring_rules" s__law_ring_rules ["size", "row", "many"] 2 (spRing K) := by
  obtain ⟨f, fd, F, m⟩ := F.ex
  obtain ⟨f1, fd1, _, G__law_code, b__law_code, m__law_code, k__law_code⟩ := h1
  refine ⟨f, fd, F, F.ok S__law_ring_rules (fun vs H Q E h => ?_) (fun cdv A outer s H vs Q E hr h => ?_), F.binds fun _ _ _ _ _ _ us hl => match us, hl with | [_, _, _], _ => rfl, m, F.kp⟩
  · obtain ⟨a, r, n, m, rfl, _⟩ := h
    rfl
  obtain ⟨a, r, n, m, rfl, n1, n6, m1, m60, hR, hl, hD, q⟩ := h
  refine ⟨_, (pss_cons
    (ps_set (i := 3) S__law_ring_rules.nd rfl (Or.inl rfl) (pe_lst pa_nil))
    (pss_cons
    (ps_for PassesOwn.never rfl (pi_range1 rfl T.z_range (pa_cons (pv 2) pa_nil)) (pg_name (i := 4) S__law_ring_rules.nd rfl (Or.inr rfl)) (pss_cons
    (ps_set (i := 5) S__law_ring_rules.nd rfl (Or.inr rfl) (pe_lc (own := [("k", 7)]) (g := gName 7) (tt := tYes) rfl S__law_ring_rules.nd (pi_range1 rfl T.z_range (pa_cons pe_int pa_nil)) (blkOk_by (N := N__law_ring_rules) (sc := defScope s__law_ring_rules) (by decide +kernel)) (fun _ _ _ _ _ => pg_name (i := 7) S__law_ring_rules.nd rfl (Or.inl rfl)) (fun _ _ _ _ _ => pts_nil) (fun _ _ _ _ _ => (pe_ix (r := rIxL K) ix_list (pv 1) (pe_op op_mod (pe_callTy call_int1 rfl T.z_int (by decide +kernel) (pa_cons (pe_op op_add (pe_op op_mul pe_int (pv 4)) (pe_op op_mul pe_int (pv 7))) pa_nil)) pe_int) (fun _ _ => rfl)))))
    (pss_cons
    (ps_set (i := 6) S__law_ring_rules.nd rfl (Or.inr rfl) (pe_call G__law_code (hr.mono (by decide)) rfl m__law_code k__law_code b__law_code .nil pass0 (pa_cons (pv 0) (pa_cons (pv 5) pa_nil))))
    (pss_one
    (ps_expr (pe_bm PySem.F.plainAttrs_list PySem.F.slot_list_append PySem.F.type_list_append mt_append (pv 3) (pa_cons (pe_callTy call_tuple_of rfl T.z_tuple (by decide +kernel) (pa_cons (pe_lc (own := [("k", 7)]) (g := gName 7) (tt := tYes) rfl S__law_ring_rules.nd (pi_range1 rfl T.z_range (pa_cons (pv 0) pa_nil)) (blkOk_by (N := N__law_ring_rules) (sc := defScope s__law_ring_rules) (by decide +kernel)) (fun _ _ _ _ _ => pg_name (i := 7) S__law_ring_rules.nd rfl (Or.inl rfl)) (fun _ _ _ _ _ => pts_nil) (fun _ _ _ _ _ => (pe_tup (pa_cons (pe_op op_mod (pe_callTy call_int1 rfl T.z_int (by decide +kernel) (pa_cons (pe_op op_add (pe_op op_add (pv 4) pe_int) (pe_op op_mul (pv 7) (pe_ix (r := rIxL K) ix_list (pv 5) (pe_op op_add pe_int (pv 7)) (fun _ _ => rfl)))) pa_nil)) (pv 2)) (pa_cons (pe_ix (r := rIxL K) ix_list (pv 6) (pv 7) (fun _ _ => rfl)) pa_nil))))) pa_nil)) pa_nil)))))))
    (pss_one
    (ps_ret (pe_callTy call_tuple_of rfl T.z_tuple (by decide +kernel) (pa_cons (pv 3) pa_nil)))))), ?_⟩
  refine q_asgL (xs := []) (el_lst ea_nil (by decide)) fun l H1 hl1 e1 h1 => ?_
  refine q_forR1 (ea_cons (ev_var rfl) ea_nil) (by omega) (fun i σ' H' => (∃ u4 u5 u6, σ' = [some (.int (n : Int)), some (.ref a), some (.int (m : Int)), some (.ref l), u4, u5, u6, none]) ∧ Ex H H' ∧ RWat H' l n m i (fun q => ∀ x ∈ q, 1 ≤ x.2.length)) ?_ ?_ ?_
  · intro H2 e2
    exact ⟨⟨none, none, none, rfl⟩, e1.trans e2, [], [], e2 _ _ h1, .nil, rfl, .nil, fun r h => by cases h⟩
  · rintro i σ' H' hi ⟨⟨u4, u5, u6, rfl⟩, e2, hW⟩
    have pi : ∀ k : Nat, ∃ j : Nat, j < 60 ∧ ((5 * (i : Int) + 7 * (k : Int)) % 60) = (j : Int) := fun k => ⟨((5 * (i : Int) + 7 * (k : Int)) % 60).toNat, by omega, by omega⟩
    let prt : List Int := (List.range 14).map fun k : Nat => at0 r ((5 * (i : Int) + 7 * (k : Int)) % 60).toNat
    have hpl : prt.length = 14 := by simp [prt]
    have hpm : prt.map V.int = (List.range 14).map fun k : Nat => V.int (at0 r ((5 * (i : Int) + 7 * (k : Int)) % 60).toNat) := by
      show ((List.range 14).map _).map V.int = _
      rw [List.map_map]
      rfl
    have hpd : ∀ k, k < 14 → 0 ≤ at0 prt k ∧ at0 prt k < 1000 := fun k hk => by
      have : at0 prt k = at0 r ((5 * (i : Int) + 7 * (k : Int)) % 60).toNat := by
        unfold at0
        show ((List.range 14).map _).getD k 0 = _
        rw [List.getD_eq_getElem?_getD, List.getElem?_map, List.getElem?_range hk]
        rfl
      rw [this]
      exact hD.at _
    refine q_asgL (xs := prt.map V.int) (by
      rw [hpm]
      refine el_lcRy (n := 14) _ (ea_cons ev_c ea_nil) (by decide) (fun x => rfl) fun k H2 e3 hk => ?_
      obtain ⟨j, hj, ej⟩ := pi k
      refine ev_atI (ex_l (e2.trans e3) hR) (i := ((5 * (i : Int) + 7 * (k : Int)) % 60).toNat) (by omega) (by omega) (ev_var rfl) (ev_mod (by decide) (ev_int (ev_add (ev_mulL (by decide) (by decide) ev_c (ev_var rfl)) (ev_mulL (by decide) (by decide) ev_c (ev_var rfl)))) ev_c)) fun p H2 hp e3 g3 => ?_
    have e23 := e2.trans e3
    refine q_callQ (dvs := []) (ea_cons (ev_var rfl) (ea_cons (ev_var rfl) ea_nil)) fun H3 e4 => ⟨p, prt, n, rfl, n1, n6, sq_of (e4 _ _ g3), by omega, fun cs hcl hcw cp H4 hcp e5 g5 => ?_⟩
    have e34 := e4.trans e5
    have g3' := e34 _ _ g3
    have hW4 := (hW.mono e3).mono e34
    let fr : Nat → Rul := fun k => ((((i : Int) + 1 + (k : Int) * at0 prt (8 + k)) % (m : Int)).toNat, cs.getD k [])
    refine s_appRow (r := (List.range n).map fr) hW4 (by omega) (ev_var rfl) (ep_line fr (ea_cons (ev_var rfl) ea_nil) (by omega) (fun x => rfl) (fun k H5 e6 hk => ?_) fun k H5 e6 hk => ?_) range_map_len (range_map_all fun k hk => ?_) (range_map_all fun k hk => ?_) fun H5 e6 ys hW5 => ⟨⟨_, _, _, rfl⟩, ?_, hW5⟩
    · obtain ⟨h1, h2⟩ := em_nat (x := (i : Int) + 1 + (k : Int) * at0 prt (8 + k)) (n := m) (by omega)
      have hp8 := hpd (8 + k) (by omega)
      exact ev_is (ev_mod (j := (m : Int)) (by omega) (ev_int (ev_add (ev_add (ev_var rfl) ev_c) (ev_mulR (by omega) (by omega) (ev_var rfl) (ev_atI (sq_of (e6 _ _ g3')) (i := 8 + k) (by omega) (by omega) (ev_var rfl) (ev_add ev_c (ev_var rfl)))))) (ev_var rfl)) (by rw [h1])
    · exact ev_op (ev_var rfl) (ev_var rfl) (rv_ixL (sq_of (e6 _ _ g5)) (atI_nat (code_get (by omega))))
    · obtain ⟨h1, h2⟩ := em_nat (x := (i : Int) + 1 + (k : Int) * at0 prt (8 + k)) (n := m) (by omega)
      have hc := hcw _ (code_in (cs := cs) (k := k) (by omega))
      exact ⟨h2, hc.1, Nat.le_trans hc.2.2 (by decide)⟩
    · exact (hcw _ (code_in (cs := cs) (k := k) (by omega))).2.1
    · exact ((e23.trans e34).trans e6).mut hl1
  · rintro σ' H' ⟨⟨u4, u5, u6, rfl⟩, e2, hW⟩
    rw [Int.toNat_natCast] at hW
    exact s_retRules hW (ev_var rfl) fun v R H2 e3 hv h1 h2 h3 => q R h1 h2 h3 v H2 (e2.trans e3) hv
/-! ### _law_free_rules -/
def spFree (K : PySem.W.Frag) : Sp := fun vs H Q _ => ∃ (a : Addr) (r : List Int) (n m : Nat), vs = [.int (n : Int), .ref a, .int (m : Int)] ∧ 1 ≤ n ∧ n ≤ 6 ∧ 1 ≤ m ∧ m ≤ 4 ∧ SqL K H a (r.map V.int) ∧ 60 ≤ r.length ∧ ∀ R : Tbl, R.length = m → RG n m R → RetTab H Q R
theorem has_free (F : At K mg "_law_free_rules" s__law_free_rules) (T : Top K mg C_Machine) : Has P w K mg base "_law_free_rules" s__law_free_rules ["size", "row", "many"] 1 (spFree K) := by
  obtain ⟨f, fd, F, m⟩ := F.ex
  refine ⟨f, fd, F, F.ok S__law_free_rules (fun vs H Q E h => ?_) (fun cdv A outer s H vs Q E hr h => ?_), F.binds fun _ _ _ _ _ _ us hl => match us, hl with | [_, _, _], _ => rfl, m, F.kp⟩
  · obtain ⟨a, r, n, m, rfl, _⟩ := h
    rfl
  obtain ⟨a, r, n, m, rfl, n1, n6, m1, m4, hR, hl, q⟩ := h
  refine ⟨_, (pss_cons
    (ps_set (i := 3) S__law_free_rules.nd rfl (Or.inr rfl) (pe_lst (pa_cons pe_str (pa_cons pe_str (pa_cons pe_str (pa_cons pe_str (pa_cons pe_str (pa_cons pe_str (pa_cons pe_str (pa_cons pe_str (pa_cons pe_str (pa_cons pe_str (pa_cons pe_str (pa_cons pe_str pa_nil))))))))))))))
    (pss_cons
    (ps_set (i := 4) S__law_free_rules.nd rfl (Or.inl rfl) (pe_lst pa_nil))
    (pss_cons
    (ps_for PassesOwn.never rfl (pi_range1 rfl T.z_range (pa_cons (pv 2) pa_nil)) (pg_name (i := 5) S__law_free_rules.nd rfl (Or.inl rfl)) (pss_cons
    (ps_set (i := 6) S__law_free_rules.nd rfl (Or.inr rfl) (pe_slice sl_list (pv 1) (po_some (pe_op op_mul pe_int (pv 5))) (po_some (pe_op op_add (pe_op op_mul pe_int (pv 5)) pe_int))))
    (pss_one
    (ps_expr (pe_bm PySem.F.plainAttrs_list PySem.F.slot_list_append PySem.F.type_list_append mt_append (pv 4) (pa_cons (pe_callTy call_tuple_of rfl T.z_tuple (by decide +kernel) (pa_cons (pe_lc (own := [("k", 7)]) (g := gName 7) (tt := tYes) rfl S__law_free_rules.nd (pi_range1 rfl T.z_range (pa_cons (pv 0) pa_nil)) (blkOk_by (N := N__law_free_rules) (sc := defScope s__law_free_rules) (by decide +kernel)) (fun _ _ _ _ _ => pg_name (i := 7) S__law_free_rules.nd rfl (Or.inl rfl)) (fun _ _ _ _ _ => pts_nil) (fun _ _ _ _ _ => (pe_tup (pa_cons (pe_op op_mod (pe_callTy call_int1 rfl T.z_int (by decide +kernel) (pa_cons (pe_ix (r := rIxL K) ix_list (pv 6) (pv 7) (fun _ _ => rfl)) pa_nil)) (pv 2)) (pa_cons (pe_ix (r := rIxL K) ix_list (pv 3) (pe_op op_mod (pe_callTy call_int1 rfl T.z_int (by decide +kernel) (pa_cons (pe_ix (r := rIxL K) ix_list (pv 6) (pe_op op_add pe_int (pv 7)) (fun _ _ => rfl)) pa_nil)) pe_int) (fun _ _ => rfl)) pa_nil))))) pa_nil)) pa_nil))))))
    (pss_one
    (ps_ret (pe_callTy call_tuple_of rfl T.z_tuple (by decide +kernel) (pa_cons (pv 4) pa_nil))))))), ?_⟩
  let ws : List (List Nat) := [[48], [49], [], [48, 48], [48, 49], [49, 48], [49, 49], [48], [49], [48, 49, 48], [49], [48]]
  have hws : ∀ c ∈ ws, Bw c ∧ c.length ≤ 100 := by
    have : ∀ c ∈ ws, (∀ d ∈ c, d = 48 ∨ d = 49) ∧ c.length ≤ 100 := by decide
    exact this
  refine q_asgL (xs := ws.map tx) (el_lst (ea_cons (ev_is ev_c (by rw [show Str.ofString "0" = SX.S [48] from by decide +kernel])) (ea_cons (ev_is ev_c (by rw [show Str.ofString "1" = SX.S [49] from by decide +kernel])) (ea_cons (ev_is ev_c (by rw [mt_is])) (ea_cons (ev_is ev_c (by rw [show Str.ofString "00" = SX.S [48, 48] from by decide +kernel])) (ea_cons (ev_is ev_c (by rw [show Str.ofString "01" = SX.S [48, 49] from by decide +kernel])) (ea_cons (ev_is ev_c (by rw [show Str.ofString "10" = SX.S [49, 48] from by decide +kernel])) (ea_cons (ev_is ev_c (by rw [show Str.ofString "11" = SX.S [49, 49] from by decide +kernel])) (ea_cons (ev_is ev_c (by rw [show Str.ofString "0" = SX.S [48] from by decide +kernel])) (ea_cons (ev_is ev_c (by rw [show Str.ofString "1" = SX.S [49] from by decide +kernel])) (ea_cons (ev_is ev_c (by rw [show Str.ofString "010" = SX.S [48, 49, 48] from by decide +kernel])) (ea_cons (ev_is ev_c (by rw [show Str.ofString "1" = SX.S [49] from by decide +kernel])) (ea_cons (ev_is ev_c (by rw [show Str.ofString "0" = SX.S [48] from by decide +kernel])) ea_nil)))))))))))) (by show 12 ≤ 100000; decide)) fun wl H0 hwl e0 h0 => ?_
  refine q_asgL (xs := []) (el_lst ea_nil (by decide)) fun l H1 hl1 e1 h1 => ?_
  have hl0 : H l = none := fresh_back e0 hl1
  refine q_forR1 (ea_cons (ev_var rfl) ea_nil) (by omega) (fun i σ' H' => (∃ u5 u6, σ' = [some (.int (n : Int)), some (.ref a), some (.int (m : Int)), some (.ref wl), some (.ref l), u5, u6, none]) ∧ Ex H H' ∧ H' wl = some (.lst (ws.map tx)) ∧ wl ≠ l ∧ RWat H' l n m i (fun _ => True)) ?_ ?_ ?_
  · intro H2 e2
    refine ⟨⟨none, none, rfl⟩, (e0.trans e1).trans e2, e2 _ _ (e1 _ _ h0), fun z => ?_, [], [], e2 _ _ h1, .nil, rfl, .nil, fun r h => by cases h⟩
    rw [z] at h0
    rw [h0] at hl1
    cases hl1
  · rintro i σ' H' hi ⟨⟨u5, u6, rfl⟩, e2, gw, nwl, hW⟩
    let prt : List Int := (r.drop (12 * i)).take 14
    have hi4 : i < 4 := by omega
    have hpl : 12 ≤ prt.length := by
      show 12 ≤ ((r.drop (12 * i)).take 14).length
      rw [List.length_take, List.length_drop]
      omega
    refine q_asgL (xs := prt.map V.int) (el_both (n := 12 * i) (k := 14) (ev_var rfl) (ex_l e2 hR) (ev_is (ev_mulL (by decide) (by decide) ev_c (ev_var rfl)) (by rw [Int.natCast_mul] <;> rfl)) (ev_is (ev_add (ev_mulL (by decide) (by decide) ev_c (ev_var rfl)) ev_c) (by rw [Int.natCast_add, Int.natCast_mul] <;> rfl))) fun p H2 hp e3 g3 => ?_
    have e23 := e2.trans e3
    have gw3 := e3 _ _ gw
    let fr : Nat → Rul := fun k => ((at0 prt k % (m : Int)).toNat, ws.getD (at0 prt (6 + k) % 12).toNat [])
    have h12 : ∀ k, (at0 prt (6 + k) % 12).toNat < ws.length := fun k => by
      show _ < 12
      omega
    refine s_appRow (r := (List.range n).map fr) (hW.mono e3) (by omega) (ev_var rfl) (ep_line fr (ea_cons (ev_var rfl) ea_nil) (by omega) (fun x => rfl) (fun k H5 e6 hk => ?_) fun k H5 e6 hk => ?_) range_map_len (range_map_all fun k hk => ?_) trivial fun H5 e6 ys hW5 => ⟨⟨_, _, rfl⟩, (e23.trans e6).mut hl0, ?_, nwl, hW5⟩
    · obtain ⟨h1, h2⟩ := em_nat (x := at0 prt k) (n := m) (by omega)
      exact ev_is (ev_mod (j := (m : Int)) (by omega) (ev_int (ev_atI (sq_of (e6 _ _ g3)) (i := k) (by omega) rfl (ev_var rfl) (ev_var rfl))) (ev_var rfl)) (by rw [h1])
    · have h1 : at0 prt (6 + k) % 12 = (((at0 prt (6 + k) % 12).toNat : Nat) : Int) := by omega
      exact ev_op (ev_var rfl) (ev_is (ev_mod (j := 12) (by decide) (ev_int (ev_atI (sq_of (e6 _ _ g3)) (i := 6 + k) (by omega) (by omega) (ev_var rfl) (ev_add ev_c (ev_var rfl)))) ev_c) (congrArg V.int h1)) (rv_ixL (sq_of (e6 _ _ gw3)) (atI_nat (code_get (h12 k))))
    · obtain ⟨h1, h2⟩ := em_nat (x := at0 prt k) (n := m) (by omega)
      have := hws _ (code_in (h12 k))
      exact ⟨h2, this.1, this.2⟩
    · rw [upd_ne nwl]
      exact e6 _ _ gw3
  · rintro σ' H' ⟨⟨u5, u6, rfl⟩, e2, gw, nwl, hW⟩
    rw [Int.toNat_natCast] at hW
    exact s_retRules hW (ev_var rfl) fun v R H2 e3 hv h1 h2 h3 => q R h1 h2 v H2 (e2.trans e3) hv
end
end Ver
namespace Ver
open PySem PySem.Spec PyProof.Rows L2 Evl
/-! ### the place of a list of ints in a list of such -/
abbrev lis (as : List (List Int)) : List (List V) := as.map fun a => a.map V.int
def dls (as : List (List Int)) : List PyData := as.map fun a => PyData.list (a.map PyData.int)
def plI (as : List (List Int)) (a : List Int) : Nat := (dls as).findIdx fun z => PyData.eqv z (.list (a.map PyData.int))
theorem eqv_li (a : List Int) : PyData.eqv (.list (a.map PyData.int)) (.list (a.map PyData.int)) = true := eqv_self (shaped_list_of_ints a)
theorem plI_lt {as : List (List Int)} {a : List Int} (h : a ∈ as) : plI as a < as.length := by
  have := List.findIdx_lt_length_of_exists (xs := dls as) (p := fun z => PyData.eqv z (.list (a.map PyData.int))) ⟨_, List.mem_map.mpr ⟨a, h, rfl⟩, eqv_li a⟩
  unfold dls at this
  rw [List.length_map] at this
  exact this
theorem lay_li (a : List Int) : PyData.canLay0 (.list (a.map PyData.int)) = true ∧ PyData.depth (.list (a.map PyData.int)) ≤ 1 := by
  have h := shaped_list_of_ints a
  refine ⟨SeqAt.canLay_of_shaped h, ?_⟩
  have h2 := deep_all (n := 0) (a.map PyData.int) fun d hd => by
    obtain ⟨x, _, rfl⟩ := List.mem_map.mp hd
    simp [PyData.depth]
  rw [PyData.depth]
  omega
section
variable {K : PySem.W.Frag} {H : Hp} {σ : L2.St}
theorem dp_lis : ∀ (ys : List V) (as : List (List Int)), LLs H ys (lis as) → DpAll K H ys (dls as)
  | [], [], _ => .nil
  | [], _ :: _, h => by
    have := h.len
    cases this
  | _ :: _, [], h => by
    have := h.len
    cases this
  | y :: ys, a :: as, h => by
    obtain ⟨r, e1, e2⟩ := h.at_ 0 (a.map V.int) rfl
    have : y = V.ref r := Option.some.inj e1
    subst this
    refine .cons (.lst (sq_of e2) (dp_ints a)) (dp_lis ys as ⟨by have := h.len; simpa using this, fun i b e => ?_⟩)
    exact h.at_ (i + 1) b e
theorem ev_indexLL {ta te : TE} {p : Addr} {ys : List V} {as : List (List Int)} {a : List Int} (hm : a ∈ as) (ha : Ev ta σ H (.ref p)) (hp : H p = some (.lst ys)) (hL : LLs H ys (lis as)) (he : EvL te σ H (a.map V.int)) : Ev (tBM K "list" (rIndexD K) ta (tCons te tNil)) σ H (.int ((plI as a : Nat) : Int)) := fun H1 e Q q =>
  ha H1 e _ fun H2 e2 => ⟨.inl ⟨rfl, ys, sq_of ((e.trans e2) _ _ hp)⟩, he H2 (e.trans e2) _ fun r H3 hr e3 h3 => by
    have e13 := (e.trans e2).trans e3
    have hlt := plI_lt hm
    have hlt2 : plI as a < (dls as).length := by
      unfold dls
      rw [List.length_map]
      exact hlt
    refine ⟨p, .ref r, .list (a.map PyData.int), dls as, plI as a, (dls as)[plI as a], rfl, rfl, .lst (sq_of (e13 _ _ hp)) (dp_lis ys as (hL.mono e13)), .lst (sq_of h3) (dp_ints a), shaped_lst (n := 1) (fun d hd => ?_) (by decide), shaped_list_of_ints a, List.getElem?_eq_getElem hlt2, ?_, fun m z hm2 hz => ?_, q H3 (e2.trans e3)⟩
    · obtain ⟨x, _, rfl⟩ := List.mem_map.mp hd
      exact lay_li x
    · exact List.findIdx_getElem (xs := dls as) (p := fun z => PyData.eqv z (.list (a.map PyData.int)))
    · have hml := (List.getElem?_eq_some_iff.mp hz).1
      have := List.not_of_lt_findIdx (xs := dls as) (p := fun z => PyData.eqv z (.list (a.map PyData.int))) hm2
      rw [List.getElem?_eq_getElem hml] at hz
      cases hz
      exact this⟩
/-- texts = texts + [..] -/
theorem s_asgCatLL {D : Ends} {ta tb : TE} {p : Addr} {ys : List V} {as bs : List (List V)} {i : Nat} (ha : Ev ta σ H (.ref p)) (hp : H p = some (.lst ys)) (hL : LLs H ys as) (hb : ∀ H1, Ex H H1 → EvLL tb σ H1 bs) (hz : as.length + bs.length ≤ 100000) (k : ∀ l zs H1, H l = none → Ex H H1 → H1 l = some (.lst zs) → LLs H1 zs (as ++ bs) → D.nx (σ.set i (some (.ref l))) H1) :
    tAsg (tOp rCat ta tb) (gName i) D σ H := ha H (Ex.refl H) _ fun H1 e1 => hb H1 e1 H1 (Ex.refl H1) _ fun l2 zs H2 hl2 e2 h2 L2' => by
  have n1 := hL.len
  have n2 := L2'.len
  have e12 := e1.trans e2
  refine ⟨p, l2, ys, zs, rfl, rfl, e12 _ _ hp, h2, sz_of (by omega), fun l hl => k l _ _ (fresh_back e12 hl) (e12.trans (Ex.new hl)) upd_same (((hL.mono e12).app L2').mono (Ex.new hl))⟩
theorem q_lst1P {D : Ends} {tz : TS} {te : TE} {P : HV} {i : Nat} (hm : ∀ {H H' : Hp} {v : V}, Ex H H' → P H v → P H' v) (h : EvP te σ H P) (k : ∀ l x H1, H l = none → Ex H H1 → H1 l = some (.lst [x]) → P H1 x → tz D (σ.set i (some (.ref l))) H1) : tSeq (tAsg (tLst (tCons te tNil)) (gName i)) tz D σ H :=
  h H (Ex.refl H) _ fun v H2 e2 hv => ⟨by show 1 ≤ sizeLine; decide, fun p hp => k p v _ (fresh_back e2 hp) (e2.trans (Ex.new hp)) upd_same (hm (Ex.new hp) hv)⟩
abbrev Mo (P : HV) : Prop := ∀ (H H' : Hp) (v : V), Ex H H' → P H v → P H' v
theorem tab_mo {R : Tbl} : Mo (TabP R) := fun _ _ _ e h => tab_sol.mono e h
theorem s_retLst2P {D : Ends} {t1 t2 : TE} {P1 P2 : HV} (m1 : Mo P1) (m2 : Mo P2) (h1 : EvP t1 σ H P1) (h2 : ∀ H1, Ex H H1 → EvP t2 σ H1 P2) (k : ∀ p x y H1, H p = none → Ex H H1 → H1 p = some (.lst [x, y]) → P1 H1 x → P2 H1 y → D.rt (.ref p) H1) : tRet (tLst (tCons t1 (tCons t2 tNil))) D σ H :=
  h1 H (Ex.refl H) _ fun x H1 e1 hx => h2 H1 e1 H1 (Ex.refl H1) _ fun y H2 e2 hy => ⟨by show 2 ≤ sizeLine; decide, fun p hp => k p x y _ (fresh_back (e1.trans e2) hp) ((e1.trans e2).trans (Ex.new hp)) upd_same (m1 _ _ _ (e2.trans (Ex.new hp)) hx) (m2 _ _ _ (Ex.new hp) hy)⟩
theorem RWat.one {n m : Nat} {G : List Rul → Prop} {l : Addr} {x : V} {r : List Rul} (h : H l = some (.lst [x])) (hv : LineP r H x) (hl : r.length = n) (hg : ∀ a ∈ r, goodR m a) (hG : G r) : RWat H l n m 1 G :=
  ⟨[x], [r], h, .cons hv .nil, rfl, by have := (RG.nil (n := n) (m := m)).snoc hl hg; exact this, fun q hq => by rw [List.mem_singleton.mp hq]; exact hG⟩
end
end Ver
namespace Ver
open PySem PySem.Spec PyProof.Rows L2 Evl
section
variable {P : Program} {w : World} {K : PySem.W.Frag} {mg : Str → Option Value} {base : Heap} {C_Machine : Addr}
/-! ### _law_holding_rules -/
def spHold (K : PySem.W.Frag) : Sp := fun vs H Q _ => ∃ (a : Addr) (r : List Int) (n : Nat), vs = [.int (n : Int), .ref a] ∧ 1 ≤ n ∧ n ≤ 6 ∧ SqL K H a (r.map V.int) ∧ 8 ≤ r.length ∧ ∀ R : Tbl, R.length = n + 1 → RG n (n + 1) R → RetTab H Q R
theorem has_hold (F : At K mg "_law_holding_rules" s__law_holding_rules) (T : Top K mg C_Machine) (h1 : Has P w K mg base "_law_code" s__law_code ["many", "row"] 1 (spCode K)) : Has P w K mg base "_law_holding_rules" s__law_holding_rules ["size", "row"] 2 (spHold K) := by
  obtain ⟨f, fd, F, m⟩ := F.ex
  obtain ⟨f1, fd1, _, G__law_code, b__law_code, m__law_code, k__law_code⟩ := h1
  refine ⟨f, fd, F, F.ok S__law_holding_rules (fun vs H Q E h => ?_) (fun cdv A outer s H vs Q E hr h => ?_), F.binds fun _ _ _ _ _ _ us hl => match us, hl with | [_, _], _ => rfl, m, F.kp⟩
  · obtain ⟨a, r, n, rfl, _⟩ := h
    rfl
  obtain ⟨a, r, n, rfl, n1, n6, hR, hl, q⟩ := h
  refine ⟨_, (pss_cons
    (ps_set (i := 2) S__law_holding_rules.nd rfl (Or.inr rfl) (pe_call G__law_code (hr.mono (by decide)) rfl m__law_code k__law_code b__law_code .nil pass0 (pa_cons (pv 0) (pa_cons (pe_slice sl_list (pv 1) po_none (po_some pe_int)) pa_nil))))
    (pss_cons
    (ps_set (i := 3) S__law_holding_rules.nd rfl (Or.inl rfl) (pe_lst (pa_cons (pe_callTy call_tuple_of rfl T.z_tuple (by decide +kernel) (pa_cons (pe_lc (own := [("k", 5)]) (g := gName 5) (tt := tYes) rfl S__law_holding_rules.nd (pi_range1 rfl T.z_range (pa_cons (pv 0) pa_nil)) (blkOk_by (N := N__law_holding_rules) (sc := defScope s__law_holding_rules) (by decide +kernel)) (fun _ _ _ _ _ => pg_name (i := 5) S__law_holding_rules.nd rfl (Or.inl rfl)) (fun _ _ _ _ _ => pts_nil) (fun _ _ _ _ _ => (pe_tup (pa_cons (pe_op op_add pe_int (pv 5)) (pa_cons pe_str pa_nil))))) pa_nil)) pa_nil)))
    (pss_cons
    (ps_for PassesOwn.never rfl (pi_range1 rfl T.z_range (pa_cons (pv 0) pa_nil)) (pg_name (i := 4) S__law_holding_rules.nd rfl (Or.inr rfl)) (pss_one
    (ps_expr (pe_bm PySem.F.plainAttrs_list PySem.F.slot_list_append PySem.F.type_list_append mt_append (pv 3) (pa_cons (pe_callTy call_tuple_of rfl T.z_tuple (by decide +kernel) (pa_cons (pe_lc (own := [("k", 5)]) (g := gName 5) (tt := tYes) rfl S__law_holding_rules.nd (pi_range1 rfl T.z_range (pa_cons (pv 0) pa_nil)) (blkOk_by (N := N__law_holding_rules) (sc := defScope s__law_holding_rules) (by decide +kernel)) (fun _ _ _ _ _ => pg_name (i := 5) S__law_holding_rules.nd rfl (Or.inl rfl)) (fun _ _ _ _ _ => pts_nil) (fun _ _ _ _ _ => (pe_tup (pa_cons (pe_op op_add pe_int (pv 5)) (pa_cons (pe_ix (r := rIxL K) ix_list (pv 2) (pv 4) (fun _ _ => rfl)) pa_nil))))) pa_nil)) pa_nil)))))
    (pss_one
    (ps_ret (pe_callTy call_tuple_of rfl T.z_tuple (by decide +kernel) (pa_cons (pv 3) pa_nil))))))), ?_⟩
  refine q_call2L (xs := (r.take 8).map V.int) (dvs := []) (ev_var rfl) (fun H1 e1 => by
    have g := el_sl (K := K) (te := tVar 1) (σ := [some (.int (n : Int)), some (.ref a), none, none, none, none]) (H := H1) (lo := none) (hi := some ((8 : Nat) : Int)) (ev_var rfl) eo_none (eo_some (te := tC (.int 8)) ev_c) (ex_l e1 hR)
    rw [cutV_pre, ← List.map_take] at g
    exact g) fun p H1 e1 h1 => ⟨p, r.take 8, n, rfl, n1, n6, sq_of h1, by rw [List.length_take]; omega, fun cs hcl hcw cp H2 hcp e2 g2 => ?_⟩
  have e12 := e1.trans e2
  let f0 : Nat → Rul := fun k => (1 + k, [])
  refine q_lst1P (P := LineP ((List.range n).map f0)) (fun e h => line_sol.mono e h) (ep_line (n := n) f0 (ea_cons (ev_var rfl) ea_nil) (by omega) (fun x => rfl) (fun k H5 e6 hk => ev_is (ev_add ev_c (ev_var rfl)) (by show V.int (1 + (k : Int)) = V.int ((1 + k : Nat) : Int); rw [Int.natCast_add] <;> rfl)) fun k H5 e6 hk => ev_is ev_c (by rw [mt_is])) fun l x H3 hl3 e3 h3 hx => ?_
  have e13 := e12.trans e3
  have hl0 : H l = none := fresh_back e12 hl3
  refine q_forR1 (ea_cons (ev_var rfl) ea_nil) (by omega) (fun i σ' H' => (∃ u4, σ' = [some (.int (n : Int)), some (.ref a), some (.ref cp), some (.ref l), u4, none]) ∧ Ex H H' ∧ H' cp = some (.lst (cs.map tx)) ∧ cp ≠ l ∧ RWat H' l n (n + 1) (1 + i) (fun _ => True)) ?_ ?_ ?_
  · intro H4 e4
    refine ⟨⟨none, rfl⟩, e13.trans e4, e4 _ _ (e3 _ _ g2), fun z => ?_, (RWat.one h3 hx range_map_len (range_map_all fun k hk => ⟨by show 1 + k < n + 1; omega, Bw.nil, Nat.zero_le _⟩) trivial).mono e4⟩
    rw [z] at g2
    rw [g2] at hl3
    cases hl3
  · rintro i σ' H' hi ⟨⟨u4, rfl⟩, e4, gc, ncl, hW⟩
    let fr : Nat → Rul := fun k => (1 + k, cs.getD i [])
    have hi' : i < cs.length := by omega
    refine s_appRow (r := (List.range n).map fr) hW (by omega) (ev_var rfl) (ep_line fr (ea_cons (ev_var rfl) ea_nil) (by omega) (fun x => rfl) (fun k H5 e6 hk => ev_is (ev_add ev_c (ev_var rfl)) (by show V.int (1 + (k : Int)) = V.int ((1 + k : Nat) : Int); rw [Int.natCast_add] <;> rfl)) fun k H5 e6 hk => ev_op (ev_var rfl) (ev_var rfl) (rv_ixL (sq_of (e6 _ _ gc)) (atI_nat (code_get hi')))) range_map_len (range_map_all fun k hk => ?_) trivial fun H5 e6 ys hW5 => ⟨⟨_, rfl⟩, (e4.trans e6).mut hl0, ?_, ncl, hW5⟩
    · have := hcw _ (code_in hi')
      exact ⟨by show 1 + k < n + 1; omega, this.1, Nat.le_trans this.2.2 (by decide)⟩
    · rw [upd_ne ncl]
      exact e6 _ _ gc
  · rintro σ' H' ⟨⟨u4, rfl⟩, e4, gc, ncl, hW⟩
    rw [Int.toNat_natCast] at hW
    exact s_retRules hW (ev_var rfl) fun v R H5 e5 hv h1 h2 h3 => q R (by omega) h2 v H5 (e4.trans e5) hv
/-! ### _law_width, _law_number -/
theorem has_lwB (F : At K mg "_law_width" s__law_width) (T : Top K mg C_Machine) : Has P w K mg base "_law_width" s__law_width ["options"] 1 spWidth := by
  obtain ⟨f, fd, F, m⟩ := F.ex
  refine ⟨f, fd, F, F.ok S__law_width (fun vs H Q E h => ?_) (fun cdv A outer s H vs Q E hr h => ?_), F.binds fun _ _ _ _ _ _ us hl => match us, hl with | [_], _ => rfl, m, F.kp⟩
  · obtain ⟨n, rfl, _⟩ := h
    rfl
  obtain ⟨n, rfl, q⟩ := h
  refine ⟨_, (pss_one
    (ps_ret (pe_bits (pe_callTy call_int1 rfl T.z_int (by decide +kernel) (pa_cons (pe_op op_sub (pv 0) pe_int) pa_nil))))), ?_⟩
  refine s_ret (v := .int (bitsOf n)) (fun H1 e1 Q' q' => (ev_int (ev_sub (ev_var (i := 0) rfl) ev_c)) H1 e1 _ fun H2 e2 => ⟨_, rfl, q' H2 e2⟩) q
def yI (x : Int) : Nat → Int
  | 0 => x
  | i + 1 => yI x i / 2
def nW (x : Int) : Nat → List Nat
  | 0 => []
  | i + 1 => [48 + (yI x i % 2).toNat] ++ nW x i
theorem nW_len (x : Int) : ∀ i, (nW x i).length = i
  | 0 => rfl
  | i + 1 => by
    show ([_] ++ nW x i).length = i + 1
    rw [List.length_append, nW_len x i]
    show 1 + i = i + 1
    omega
theorem nW_bw (x : Int) : ∀ i, Bw (nW x i)
  | 0 => Bw.nil
  | i + 1 => (Bw.one (b := (yI x i % 2).toNat) (by omega)).app (nW_bw x i)
def numW (x : Int) (n : Nat) : List Nat := nW x (bitsOf (n : Int)).toNat
theorem numW_len {x : Int} {n : Nat} (h1 : 1 ≤ n) (h2 : n ≤ 1000) : (numW x n).length ≤ 100 := by
  have hb1 := bits_le (m := (n : Int)) (b := 10) (by omega) (Int.le_trans (show (n : Int) ≤ 1000 by omega) (by decide))
  unfold numW
  rw [nW_len]
  omega
def spNum : Sp := fun vs H Q _ => ∃ x : Int, ∃ n : Nat, vs = [.int x, .int (n : Int)] ∧ 1 ≤ n ∧ n ≤ 1000 ∧ RetV (tx (numW x n)) H Q
theorem has_num (F : At K mg "_law_number" s__law_number) (T : Top K mg C_Machine) (h1 : Has P w K mg base "_law_width" s__law_width ["options"] 1 spWidth) : Has P w K mg base "_law_number" s__law_number ["number", "options"] 2 spNum := by
  obtain ⟨f, fd, F, m⟩ := F.ex
  obtain ⟨f1, fd1, _, G__law_width, b__law_width, m__law_width, k__law_width⟩ := h1
  refine ⟨f, fd, F, F.ok S__law_number (fun vs H Q E h => ?_) (fun cdv A outer s H vs Q E hr h => ?_), F.binds fun _ _ _ _ _ _ us hl => match us, hl with | [_, _], _ => rfl, m, F.kp⟩
  · obtain ⟨x, n, rfl, _⟩ := h
    rfl
  obtain ⟨x, n, rfl, n1, nz, q⟩ := h
  refine ⟨_, (pss_cons
    (ps_set (i := 2) S__law_number.nd rfl (Or.inl rfl) pe_str)
    (pss_cons
    (ps_set (i := 3) S__law_number.nd rfl (Or.inl rfl) (pv 0))
    (pss_cons
    (ps_for PassesOwn.never rfl (pi_range1 rfl T.z_range (pa_cons (pe_call G__law_width (hr.mono (by decide)) rfl m__law_width k__law_width b__law_width .nil pass0 (pa_cons (pv 1) pa_nil)) pa_nil)) (pg_name (i := 4) S__law_number.nd rfl (Or.inl rfl)) (pss_cons
    (ps_set (i := 2) S__law_number.nd rfl (Or.inl rfl) (pe_op op_add_str (pe_callTy call_str_int rfl T.z_str (by decide +kernel) (pa_cons (pe_op op_mod (pe_callTy call_int1 rfl T.z_int (by decide +kernel) (pa_cons (pv 3) pa_nil)) pe_int) pa_nil)) (pv 2)))
    (pss_one
    (ps_set (i := 3) S__law_number.nd rfl (Or.inl rfl) (pe_op op_fdivW (pe_callTy call_int1 rfl T.z_int (by decide +kernel) (pa_cons (pv 3) pa_nil)) pe_int)))))
    (pss_one
    (ps_ret (pv 2)))))), ?_⟩
  have hb1 := bits_le (m := (n : Int)) (b := 10) (by omega) (Int.le_trans (show (n : Int) ≤ 1000 by omega) (by decide))
  have hb0 := bits_nn (n : Int)
  refine q_asg (v := tx []) (ev_is ev_c (by rw [mt_is])) fun H1 e1 => ?_
  refine q_asg (v := .int x) (ev_var rfl) fun H2 e2 => ?_
  refine q_forR1 (n := bitsOf (n : Int)) (ea_cons (ev_call (ea_cons (ev_var rfl) ea_nil) sv_width) ea_nil) (by omega) (fun i σ' H' => (∃ u4 : Option V, σ' = [some (.int x), some (.int (n : Int)), some (tx (nW x i)), some (.int (yI x i)), u4]) ∧ Ex H H') ?_ ?_ ?_
  · intro H3 e3
    exact ⟨⟨none, rfl⟩, (e1.trans e2).trans e3⟩
  · rintro i σ' H' hi ⟨⟨u4, rfl⟩, e3⟩
    have hl := nW_len x i
    have eb : yI x i % 2 = (((yI x i % 2).toNat : Nat) : Int) := by omega
    refine q_asg (v := tx ([48 + (yI x i % 2).toNat] ++ nW x i)) (ev_catS (a := [48 + (yI x i % 2).toNat]) (b := nW x i) (by show 1 + (nW x i).length ≤ 100000; omega) (ev_strBit (by omega) (ev_is (ev_mod (j := 2) (by decide) (ev_int (ev_var rfl)) ev_c) (congrArg V.int eb))) (ev_var rfl)) fun H4 e4 => ?_
    exact s_asg (v := .int (yI x i / 2)) (ev_div (by decide) (by decide) (ev_int (ev_var rfl)) ev_c) fun H5 e5 => ⟨⟨_, rfl⟩, (e3.trans e4).trans e5⟩
  · rintro σ' H' ⟨⟨u4, rfl⟩, e3⟩
    exact s_ret (ev_var rfl) fun H4 e4 => q H4 (e3.trans e4)
theorem sv_num {x : Int} {n : Nat} {H : Hp} (h1 : 1 ≤ n) (h2 : n ≤ 1000) : SpV spNum ([.int x, .int (n : Int)] ++ []) H (tx (numW x n)) := fun _ _ _ q _ => ⟨x, n, rfl, h1, h2, q⟩
end
end Ver
namespace Ver
open PySem PySem.Spec PyProof.Rows L2 Evl
section
variable {P : Program} {w : World} {K : PySem.W.Frag} {mg : Str → Option Value} {base : Heap} {C_Machine : Addr}
theorem next_nat {i m : Nat} (hm : 1 ≤ m) : ((i : Int) + 1) % (m : Int) = (((i + 1) % m : Nat) : Int) := by
  rw [Int.natCast_emod, Int.natCast_add]
  rfl
/-! ### _law_burst_rules -/
def spBurst : Sp := fun vs H Q _ => ∃ (n m b : Nat) (t : Int), vs = [.int (n : Int), .int (m : Int), .int (b : Int), .int t] ∧ 1 ≤ n ∧ n ≤ 6 ∧ 1 ≤ m ∧ m ≤ 60 ∧ b ≤ 100 ∧ ∀ R : Tbl, R.length = m → RG n m R → RetTab H Q R
theorem has_burst (F : At K mg "_law_burst_rules" s__law_burst_rules) (T : Top K mg C_Machine) (h1 : Has P w K mg base "_law_bits" s__law_bits ["wide", "seed"] 1 spBt) : Has P w K mg base "_law_burst_rules" s__law_burst_rules ["size", "many", "bits", "at"] 2 spBurst := by
  obtain ⟨f, fd, F, m⟩ := F.ex
  obtain ⟨f1, fd1, _, G__law_bits, b__law_bits, m__law_bits, k__law_bits⟩ := h1
  refine ⟨f, fd, F, F.ok S__law_burst_rules (fun vs H Q E h => ?_) (fun cdv A outer s H vs Q E hr h => ?_), F.binds fun _ _ _ _ _ _ us hl => match us, hl with | [_, _, _, _], _ => rfl, m, F.kp⟩
  · obtain ⟨n, m, b, t, rfl, _⟩ := h
    rfl
  obtain ⟨n, m, b, t, rfl, n1, n6, m1, m60, hb, q⟩ := h
  refine ⟨_, (pss_cons
    (ps_set (i := 4) S__law_burst_rules.nd rfl (Or.inl rfl) (pe_lst pa_nil))
    (pss_cons
    (ps_for PassesOwn.never rfl (pi_range1 rfl T.z_range (pa_cons (pv 1) pa_nil)) (pg_name (i := 5) S__law_burst_rules.nd rfl (Or.inr rfl)) (pss_cons
    (ps_set (i := 6) S__law_burst_rules.nd rfl (Or.inr rfl) (pe_ifExp (pt_cmpR op_eq (pv 5) (pv 3) (nomark _)) (pv 2) pe_int))
    (pss_one
    (ps_expr (pe_bm PySem.F.plainAttrs_list PySem.F.slot_list_append PySem.F.type_list_append mt_append (pv 4) (pa_cons (pe_callTy call_tuple_of rfl T.z_tuple (by decide +kernel) (pa_cons (pe_lc (own := [("k", 7)]) (g := gName 7) (tt := tYes) rfl S__law_burst_rules.nd (pi_range1 rfl T.z_range (pa_cons (pv 0) pa_nil)) (blkOk_by (N := N__law_burst_rules) (sc := defScope s__law_burst_rules) (by decide +kernel)) (fun _ _ _ _ _ => pg_name (i := 7) S__law_burst_rules.nd rfl (Or.inl rfl)) (fun _ _ _ _ _ => pts_nil) (fun _ _ _ _ _ => (pe_tup (pa_cons (pe_op op_mod (pe_callTy call_int1 rfl T.z_int (by decide +kernel) (pa_cons (pe_op op_add (pv 5) pe_int) pa_nil)) (pv 1)) (pa_cons (pe_call G__law_bits (hr.mono (by decide)) rfl m__law_bits k__law_bits b__law_bits .nil pass0 (pa_cons (pv 6) (pa_cons (pe_op op_add (pe_op op_mul pe_int (pv 7)) pe_int) pa_nil))) pa_nil))))) pa_nil)) pa_nil))))))
    (pss_one
    (ps_ret (pe_callTy call_tuple_of rfl T.z_tuple (by decide +kernel) (pa_cons (pv 4) pa_nil)))))), ?_⟩
  refine q_asgL (xs := []) (el_lst ea_nil (by decide)) fun l H1 hl1 e1 h1 => ?_
  refine q_forR1 (ea_cons (ev_var rfl) ea_nil) (by omega) (fun i σ' H' => (∃ u5 u6, σ' = [some (.int (n : Int)), some (.int (m : Int)), some (.int (b : Int)), some (.int t), some (.ref l), u5, u6, none]) ∧ Ex H H' ∧ RWat H' l n m i (fun _ => True)) ?_ ?_ ?_
  · intro H2 e2
    exact ⟨⟨none, none, rfl⟩, e1.trans e2, [], [], e2 _ _ h1, .nil, rfl, .nil, fun r h => by cases h⟩
  · rintro i σ' H' hi ⟨⟨u5, u6, rfl⟩, e2, hW⟩
    let wd : Nat := if (i : Int) = t then b else 0
    have hwd : wd ≤ 100 := by
      show (if (i : Int) = t then b else 0) ≤ 100
      split <;> omega
    refine q_asg (v := .int (wd : Int)) (ev_if (et_eqI (ev_var rfl) (ev_var rfl)) (fun hb => ev_is (ev_var rfl) (by
      have : (i : Int) = t := of_decide_eq_true hb
      show V.int (b : Int) = V.int ((if (i : Int) = t then b else 0 : Nat) : Int)
      rw [if_pos this])) fun hb => ev_is ev_c (by
      have : ¬ (i : Int) = t := of_decide_eq_false hb
      show V.int 0 = V.int ((if (i : Int) = t then b else 0 : Nat) : Int)
      rw [if_neg this]
      rfl)) fun H2 e3 => ?_
    let fr : Nat → Rul := fun k => ((i + 1) % m, btw wd (37 * (k : Int) + 11))
    refine s_appRow (r := (List.range n).map fr) (hW.mono e3) (by omega) (ev_var rfl) (ep_line fr (ea_cons (ev_var rfl) ea_nil) (by omega) (fun x => rfl) (fun k H5 e6 hk => ev_is (ev_mod (j := (m : Int)) (by omega) (ev_int (ev_add (ev_var rfl) ev_c)) (ev_var rfl)) (by rw [next_nat m1])) fun k H5 e6 hk => ev_call (ea_cons (ev_var rfl) (ea_cons (ev_add (ev_mulL (by decide) (by decide) ev_c (ev_var rfl)) ev_c) ea_nil)) (sv_bt (by omega))) range_map_len (range_map_all fun k hk => ⟨Nat.mod_lt _ (by omega), btw_bw, by show (btw wd _).length ≤ 100; rw [btw_len]; exact hwd⟩) trivial fun H5 e6 ys hW5 => ⟨⟨_, _, rfl⟩, ((e2.trans e3).trans e6).mut hl1, hW5⟩
  · rintro σ' H' ⟨⟨u5, u6, rfl⟩, e2, hW⟩
    rw [Int.toNat_natCast] at hW
    exact s_retRules hW (ev_var rfl) fun v R H2 e3 hv h1 h2 h3 => q R h1 h2 v H2 (e2.trans e3) hv
/-! ### _law_slow_rules -/
def slowF (m t i k : Nat) : Rul := ((i + 1) % m, if (1 < m ∧ i = t) ∧ k ≠ 1 then [49] else [])
def slowR (n m t : Nat) : Tbl := (List.range m).map fun i => (List.range n).map (slowF m t i)
def spSlow : Sp := fun vs H Q _ => ∃ n m t : Nat, vs = [.int (n : Int), .int (m : Int), .int (t : Int)] ∧ 1 ≤ n ∧ n ≤ 6 ∧ 1 ≤ m ∧ m ≤ 60 ∧ RetTab H Q (slowR n m t)
theorem has_slow (F : At K mg "_law_slow_rules" s__law_slow_rules) (T : Top K mg C_Machine) : Has P w K mg base "_law_slow_rules" s__law_slow_rules ["size", "many", "at"] 1 spSlow := by
  obtain ⟨f, fd, F, m⟩ := F.ex
  refine ⟨f, fd, F, F.ok S__law_slow_rules (fun vs H Q E h => ?_) (fun cdv A outer s H vs Q E hr h => ?_), F.binds fun _ _ _ _ _ _ us hl => match us, hl with | [_, _, _], _ => rfl, m, F.kp⟩
  · obtain ⟨n, m, t, rfl, _⟩ := h
    rfl
  obtain ⟨n, m, t, rfl, n1, n6, m1, m60, q⟩ := h
  refine ⟨_, (pss_cons
    (ps_set (i := 3) S__law_slow_rules.nd rfl (Or.inl rfl) (pe_lst pa_nil))
    (pss_cons
    (ps_for PassesOwn.never rfl (pi_range1 rfl T.z_range (pa_cons (pv 1) pa_nil)) (pg_name (i := 4) S__law_slow_rules.nd rfl (Or.inr rfl)) (pss_cons
    (ps_set (i := 5) S__law_slow_rules.nd rfl (Or.inr rfl) (pe_ifExp (PW.pt (pw_and (pt_cmpR op_gt (pv 1) pe_int (nomark _)) (pw_and1 (pt_cmpR op_eq (pv 4) (pv 2) (nomark _))))) pe_str pe_str))
    (pss_one
    (ps_expr (pe_bm PySem.F.plainAttrs_list PySem.F.slot_list_append PySem.F.type_list_append mt_append (pv 3) (pa_cons (pe_callTy call_tuple_of rfl T.z_tuple (by decide +kernel) (pa_cons (pe_lc (own := [("k", 6)]) (g := gName 6) (tt := tYes) rfl S__law_slow_rules.nd (pi_range1 rfl T.z_range (pa_cons (pv 0) pa_nil)) (blkOk_by (N := N__law_slow_rules) (sc := defScope s__law_slow_rules) (by decide +kernel)) (fun _ _ _ _ _ => pg_name (i := 6) S__law_slow_rules.nd rfl (Or.inl rfl)) (fun _ _ _ _ _ => pts_nil) (fun _ _ _ _ _ => (pe_tup (pa_cons (pe_op op_mod (pe_callTy call_int1 rfl T.z_int (by decide +kernel) (pa_cons (pe_op op_add (pv 4) pe_int) pa_nil)) (pv 1)) (pa_cons (pe_ifExp (pt_cmpR op_ne (pv 6) pe_int (nomark _)) (pv 5) pe_str) pa_nil))))) pa_nil)) pa_nil))))))
    (pss_one
    (ps_ret (pe_callTy call_tuple_of rfl T.z_tuple (by decide +kernel) (pa_cons (pv 3) pa_nil)))))), ?_⟩
  refine q_asgL (xs := []) (el_lst ea_nil (by decide)) fun l H1 hl1 e1 h1 => ?_
  refine q_forR1 (ea_cons (ev_var rfl) ea_nil) (by omega) (fun i σ' H' => (∃ u4 u5, σ' = [some (.int (n : Int)), some (.int (m : Int)), some (.int (t : Int)), some (.ref l), u4, u5, none]) ∧ Ex H H' ∧ ∃ xs, H' l = some (.lst xs) ∧ LsP LineP H' xs ((List.range i).map fun i => (List.range n).map (slowF m t i))) ?_ ?_ ?_
  · intro H2 e2
    exact ⟨⟨none, none, rfl⟩, e1.trans e2, [], e2 _ _ h1, .nil⟩
  · rintro i σ' H' hi ⟨⟨u4, u5, rfl⟩, e2, xs, hx, hL⟩
    let wd : List Nat := if 1 < m ∧ i = t then [49] else []
    refine q_asg (v := tx wd) (ev_if (et_and (a := decide ((m : Int) > 1)) (b := decide ((i : Int) = (t : Int))) (et_gt (ev_var rfl) ev_c) fun _ => et_eqI (ev_var rfl) (ev_var rfl)) (fun hb => ev_is ev_c (by
      rw [Bool.and_eq_true] at hb
      have h1 := of_decide_eq_true hb.1
      have h2 := of_decide_eq_true hb.2
      show V.str (Str.ofString "1") = tx (if 1 < m ∧ i = t then [49] else [])
      rw [if_pos ⟨by omega, by omega⟩, show Str.ofString "1" = SX.S [49] from by decide +kernel])) fun hb => ev_is ev_c (by
      rw [Bool.and_eq_false_iff] at hb
      show V.str (Str.ofString "") = tx (if 1 < m ∧ i = t then [49] else [])
      rw [if_neg, mt_is]
      rintro ⟨h1, h2⟩
      rcases hb with hb | hb
      · exact of_decide_eq_false hb (by omega)
      · exact of_decide_eq_false hb (by omega))) fun H2 e3 => ?_
    have hxl := hL.len
    rw [List.length_map, List.length_range] at hxl
    refine s_appP (P := LineP ((List.range n).map (slowF m t i))) (e3 _ _ hx) (ev_var rfl) (ep_line (slowF m t i) (ea_cons (ev_var rfl) ea_nil) (by omega) (fun x => rfl) (fun k H5 e6 hk => ev_is (ev_mod (j := (m : Int)) (by omega) (ev_int (ev_add (ev_var rfl) ev_c)) (ev_var rfl)) (by rw [next_nat m1] <;> rfl)) fun k H5 e6 hk => ev_if (et_neI (ev_var rfl) ev_c) (fun hb => ev_is (ev_var rfl) (by
        have h1 : ¬ (k : Int) = 1 := by simpa using hb
        show tx (if 1 < m ∧ i = t then [49] else []) = tx (if (1 < m ∧ i = t) ∧ k ≠ 1 then [49] else [])
        have : k ≠ 1 := by omega
        simp [this])) fun hb => ev_is ev_c (by
        have h1 : (k : Int) = 1 := by simpa using hb
        have : k = 1 := by omega
        show V.str (Str.ofString "") = tx (if (1 < m ∧ i = t) ∧ k ≠ 1 then [49] else [])
        simp [this, mt_is])) (by omega) fun v H3 e4 hv => ⟨⟨_, _, rfl⟩, ((e2.trans e3).trans e4).mut hl1, xs ++ [v], upd_same, ?_⟩
    rw [List.range_succ, List.map_append]
    have g := e4 _ _ (e3 _ _ hx)
    exact ((hL.mono line_sol (e3.trans e4)).upd line_sol g).snoc (line_sol.upd g hv)
  · rintro σ' H' ⟨⟨u4, u5, rfl⟩, e2, xs, hx, hL⟩
    rw [Int.toNat_natCast] at hL
    exact s_retP (ep_tup line_sol (P := LineP) (EvP.of_ev (ev_var rfl) fun H2 e3 => ⟨l, xs, rfl, e3 _ _ hx, hL.mono line_sol e3⟩)) fun v H2 e3 hv => q v H2 (e2.trans e3) hv
end
end Ver
namespace Ver
open PySem PySem.Spec PyProof.Rows L2 Evl
theorem RWat.other {H : Hp} {l l2 : Addr} {n m i : Nat} {G : List Rul → Prop} {us : List V} {o : HO} (h : RWat H l n m i G) (hl : H l2 = some (.lst us)) (ne : l ≠ l2) : RWat (upd H l2 o) l n m i G := by
  obtain ⟨xs, R, h1, h2, h3⟩ := h
  exact ⟨xs, R, by rw [upd_ne ne]; exact h1, h2.upd line_sol hl, h3⟩
/-- a row under way -/
def PWat (H : Hp) (l : Addr) (m i : Nat) : Prop := ∃ xs r, H l = some (.lst xs) ∧ LsP PairP H xs r ∧ r.length = i ∧ ∀ a ∈ r, goodR m a
theorem PWat.mono {H H' : Hp} {l : Addr} {m i : Nat} (h : PWat H l m i) (e : Ex H H') : PWat H' l m i := by
  obtain ⟨xs, R, h1, h2, h3⟩ := h
  exact ⟨xs, R, e _ _ h1, h2.mono pair_sol e, h3⟩
theorem PWat.other {H : Hp} {l l2 : Addr} {m i : Nat} {us : List V} {o : HO} (h : PWat H l m i) (hl : H l2 = some (.lst us)) (ne : l ≠ l2) : PWat (upd H l2 o) l m i := by
  obtain ⟨xs, R, h1, h2, h3⟩ := h
  exact ⟨xs, R, by rw [upd_ne ne]; exact h1, h2.upd pair_sol hl, h3⟩
section
variable {P : Program} {w : World} {K : PySem.W.Frag} {mg : Str → Option Value} {base : Heap} {C_Machine : Addr}
theorem q_appPair {σ : L2.St} {H : Hp} {D : Ends} {tz : TS} {ta te : TE} {l : Addr} {m i : Nat} {a : Rul} (h : PWat H l m i) (hi : i ≤ 1000) (ha : Ev ta σ H (.ref l)) (he : EvP te σ H (PairP a)) (hg : goodR m a) (k : ∀ H1, Ex H H1 → ∀ us ys, H1 l = some (.lst us) → PWat (L2.upd H1 l (.lst ys)) l m (i + 1) → tz D σ (L2.upd H1 l (.lst ys))) :
    tSeq (tDrop (tBM K "list" rAppend ta (tCons te tNil))) tz D σ H := by
  obtain ⟨xs, r, h1, h2, h3, h4⟩ := h
  have hx := h2.len
  refine q_appP h1 ha he (by omega) fun v H1 e hv => k H1 e xs _ (e _ _ h1) ⟨xs ++ [v], r ++ [a], upd_same, ((h2.mono pair_sol e).upd pair_sol (e _ _ h1)).snoc (pair_sol.upd (e _ _ h1) hv), by rw [List.length_append, h3]; rfl, fun b hb => (List.mem_append.mp hb).elim (h4 b) fun hb => by rw [List.mem_singleton.mp hb]; exact hg⟩
theorem s_appPair {σ : L2.St} {H : Hp} {D : Ends} {ta te : TE} {l : Addr} {m i : Nat} {a : Rul} (h : PWat H l m i) (hi : i ≤ 1000) (ha : Ev ta σ H (.ref l)) (he : EvP te σ H (PairP a)) (hg : goodR m a) (k : ∀ H1, Ex H H1 → ∀ us ys, H1 l = some (.lst us) → PWat (L2.upd H1 l (.lst ys)) l m (i + 1) → D.nx σ (L2.upd H1 l (.lst ys))) :
    tDrop (tBM K "list" rAppend ta (tCons te tNil)) D σ H := q_appPair (D := D) (tz := fun D σ H => D.nx σ H) h hi ha he hg k
/-! ### _law_balanced_rules -/
def RetTwo (H : Hp) (Q : VK) (R1 R2 : Tbl) : Prop := ∀ p x y H2, H p = none → Ex H H2 → H2 p = some (.lst [x, y]) → TabP R1 H2 x → TabP R2 H2 y → Q (.ref p) H2
def spBal (K : PySem.W.Frag) : Sp := fun vs H Q _ => ∃ (a : Addr) (r : List Int) (n : Nat), vs = [.int (n : Int), .ref a] ∧ 1 ≤ n ∧ n ≤ 6 ∧ SqL K H a (r.map V.int) ∧ 60 ≤ r.length ∧ Dg r ∧ ∀ (m : Nat) (R1 R2 : Tbl), 1 ≤ m → m ≤ 6 → R1.length = m → RG n m R1 → R2.length = m → RG n m R2 → RetTwo H Q R1 R2
theorem has_bal (F : At K mg "_law_balanced_rules" s__law_balanced_rules) (T : Top K mg C_Machine) (h1 : Has P w K mg base "_law_bits" s__law_bits ["wide", "seed"] 1 spBt) : Has P w K mg base "_law_balanced_rules" s__law_balanced_rules ["size", "row"] 2 (spBal K) := by
  obtain ⟨f, fd, F, m⟩ := F.ex
  obtain ⟨f1, fd1, _, G__law_bits, b__law_bits, m__law_bits, k__law_bits⟩ := h1
  refine ⟨f, fd, F, F.ok S__law_balanced_rules (fun vs H Q E h => ?_) (fun cdv A outer s H vs Q E hr h => ?_), F.binds fun _ _ _ _ _ _ us hl => match us, hl with | [_, _], _ => rfl, m, F.kp⟩
  · obtain ⟨a, r, n, rfl, _⟩ := h
    rfl
  obtain ⟨a, r, n, rfl, n1, n6, hR, hl, hD, q⟩ := h
  refine ⟨_, (pss_cons
    (ps_set (i := 2) S__law_balanced_rules.nd rfl (Or.inl rfl) (pe_op op_add pe_int (pe_op op_mod (pe_callTy call_int1 rfl T.z_int (by decide +kernel) (pa_cons (pe_ix (r := rIxL K) ix_list (pv 1) pe_int (fun _ _ => rfl)) pa_nil)) pe_int)))
    (pss_cons
    (ps_setLc (i := 4) (own := [("s", 3)]) (g := gName 3) (tt := tYes) rfl S__law_balanced_rules.nd rfl (rfl) (sw_true rfl rfl rfl (by decide +kernel)) (pi_range1 rfl T.z_range (pa_cons (pv 2) pa_nil)) (blkOk_by (N := N__law_balanced_rules) (sc := defScope s__law_balanced_rules) (by decide +kernel)) (fun _ _ _ _ _ => pg_name (i := 3) S__law_balanced_rules.nd rfl (Or.inl rfl)) (fun _ _ _ _ _ => pts_nil) (fun _ _ _ _ _ => (pe_op op_mod (pe_callTy call_int1 rfl T.z_int (by decide +kernel) (pa_cons (pe_ix (r := rIxL K) ix_list (pv 1) (pe_op op_add pe_int (pv 3)) (fun _ _ => rfl)) pa_nil)) pe_int)))
    (pss_cons
    (ps_set (i := 5) S__law_balanced_rules.nd rfl (Or.inl rfl) (pe_lst pa_nil))
    (pss_cons
    (ps_set (i := 6) S__law_balanced_rules.nd rfl (Or.inl rfl) (pe_lst pa_nil))
    (pss_cons
    (ps_for PassesOwn.never rfl (pi_range1 rfl T.z_range (pa_cons (pv 2) pa_nil)) (pg_name (i := 3) S__law_balanced_rules.nd rfl (Or.inl rfl)) (pss_cons
    (ps_set (i := 7) S__law_balanced_rules.nd rfl (Or.inl rfl) (pe_lst pa_nil))
    (pss_cons
    (ps_set (i := 8) S__law_balanced_rules.nd rfl (Or.inl rfl) (pe_lst pa_nil))
    (pss_cons
    (ps_for PassesOwn.never rfl (pi_range1 rfl T.z_range (pa_cons (pv 0) pa_nil)) (pg_name (i := 9) S__law_balanced_rules.nd rfl (Or.inl rfl)) (pss_cons
    (ps_set (i := 10) S__law_balanced_rules.nd rfl (Or.inl rfl) (pe_callTy call_int1 rfl T.z_int (by decide +kernel) (pa_cons (pe_ix (r := rIxL K) ix_list (pv 1) (pe_op op_add pe_int (pe_op op_mod (pe_callTy call_int1 rfl T.z_int (by decide +kernel) (pa_cons (pe_op op_add (pe_op op_mul (pv 3) (pv 0)) (pv 9)) pa_nil)) pe_int)) (fun _ _ => rfl)) pa_nil)))
    (pss_cons
    (ps_set (i := 11) S__law_balanced_rules.nd rfl (Or.inl rfl) (pe_op op_mod (pv 10) (pv 2)))
    (pss_cons
    (ps_set (i := 12) S__law_balanced_rules.nd rfl (Or.inl rfl) (pe_op op_add pe_int (pe_op op_mod (pe_op op_fdivW (pv 10) pe_int) pe_int)))
    (pss_cons
    (ps_set (i := 13) S__law_balanced_rules.nd rfl (Or.inl rfl) (pe_callTy call_int1 rfl T.z_int (by decide +kernel) (pa_cons (pe_and (pe_cmpR op_eq (pe_op op_mod (pe_callTy call_int1 rfl T.z_int (by decide +kernel) (pa_cons (pe_ix (r := rIxL K) ix_list (pv 1) pe_int (fun _ _ => rfl)) pa_nil)) pe_int) pe_int (nomark _)) (pe_one (pe_cmpR op_eq (pe_op op_mod (pe_callTy call_int1 rfl T.z_int (by decide +kernel) (pa_cons (pe_ix (r := rIxL K) ix_list (pv 1) (pe_op op_sub (pe_op op_sub pe_int (pv 3)) (pv 9)) (fun _ _ => rfl)) pa_nil)) pe_int) pe_int (nomark _)))) pa_nil)))
    (pss_cons
    (ps_expr (pe_bm PySem.F.plainAttrs_list PySem.F.slot_list_append PySem.F.type_list_append mt_append (pv 7) (pa_cons (pe_tup (pa_cons (pv 11) (pa_cons (pe_call G__law_bits (hr.mono (by decide)) rfl m__law_bits k__law_bits b__law_bits .nil pass0 (pa_cons (pv 12) (pa_cons (pv 10) pa_nil))) pa_nil))) pa_nil)))
    (pss_one
    (ps_expr (pe_bm PySem.F.plainAttrs_list PySem.F.slot_list_append PySem.F.type_list_append mt_append (pv 8) (pa_cons (pe_tup (pa_cons (pv 11) (pa_cons (pe_call G__law_bits (hr.mono (by decide)) rfl m__law_bits k__law_bits b__law_bits .nil pass0 (pa_cons (pe_op op_add (pe_op op_sub (pe_op op_add (pv 12) (pe_ix (r := rIxL K) ix_list (pv 4) (pv 11) (fun _ _ => rfl))) (pe_ix (r := rIxL K) ix_list (pv 4) (pv 3) (fun _ _ => rfl))) (pv 13)) (pa_cons (pe_op op_add (pv 10) pe_int) pa_nil))) pa_nil))) pa_nil))))))))))
    (pss_cons
    (ps_expr (pe_bm PySem.F.plainAttrs_list PySem.F.slot_list_append PySem.F.type_list_append mt_append (pv 5) (pa_cons (pe_callTy call_tuple_of rfl T.z_tuple (by decide +kernel) (pa_cons (pv 7) pa_nil)) pa_nil)))
    (pss_one
    (ps_expr (pe_bm PySem.F.plainAttrs_list PySem.F.slot_list_append PySem.F.type_list_append mt_append (pv 6) (pa_cons (pe_callTy call_tuple_of rfl T.z_tuple (by decide +kernel) (pa_cons (pv 8) pa_nil)) pa_nil)))))))))
    (pss_one
    (ps_ret (pe_lst (pa_cons (pe_callTy call_tuple_of rfl T.z_tuple (by decide +kernel) (pa_cons (pv 5) pa_nil)) (pa_cons (pe_callTy call_tuple_of rfl T.z_tuple (by decide +kernel) (pa_cons (pv 6) pa_nil)) pa_nil)))))))))), ?_⟩
  obtain ⟨m, m1, m6, em⟩ : ∃ m : Nat, 1 ≤ m ∧ m ≤ 6 ∧ 1 + at0 r 0 % 6 = (m : Int) := ⟨(1 + at0 r 0 % 6).toNat, by omega, by omega, by omega⟩
  refine q_asg (v := .int (m : Int)) (ev_is (ev_add ev_c (ev_mod (by decide) (ev_int (ev_atI hR (i := 0) (by omega) rfl (ev_var rfl) ev_c)) ev_c)) (by rw [em])) fun H1 e1 => ?_
  let hts : List Int := (List.range m).map fun s : Nat => at0 r (1 + s) % 4
  have htl : hts.length = m := by simp [hts]
  have htm : hts.map V.int = (List.range m).map fun s : Nat => V.int (at0 r (1 + s) % 4) := by
    show ((List.range m).map _).map V.int = _
    rw [List.map_map]
    rfl
  have htd : ∀ s, 0 ≤ at0 hts s ∧ at0 hts s < 4 := fun s => by
    by_cases c : s < m
    · have : at0 hts s = at0 r (1 + s) % 4 := by
        unfold at0
        show ((List.range m).map _).getD s 0 = _
        rw [List.getD_eq_getElem?_getD, List.getElem?_map, List.getElem?_range c]
        rfl
      rw [this]
      omega
    · have : at0 hts s = 0 := by
        unfold at0
        rw [List.getD_eq_getElem?_getD, List.getElem?_eq_none (by omega)]
        rfl
      omega
  refine q_asgL (xs := hts.map V.int) (by
    rw [htm]
    refine el_lcRy (n := m) _ (ea_cons (ev_var rfl) ea_nil) (by omega) (fun x => rfl) fun k H2 e3 hk => ?_
    exact ev_mod (by decide) (ev_int (ev_atI (ex_l (e1.trans e3) hR) (i := 1 + k) (by omega) (by omega) (ev_var rfl) (ev_add ev_c (ev_var rfl)))) ev_c) fun ht H2 hht e2 gh => ?_
  have e12 := e1.trans e2
  refine q_asgL (xs := []) (el_lst ea_nil (by decide)) fun l5 H3 hl5 e3 g5 => ?_
  refine q_asgL (xs := []) (el_lst ea_nil (by decide)) fun l6 H4 hl6 e4 g6 => ?_
  have e14 := (e12.trans e3).trans e4
  have h50 : H l5 = none := fresh_back e12 hl5
  have h60 : H l6 = none := fresh_back (e12.trans e3) hl6
  have n56 : l5 ≠ l6 := fun z => by
    rw [← z, g5] at hl6
    cases hl6
  have nh5 : ht ≠ l5 := fun z => by
    rw [z] at gh
    rw [gh] at hl5
    cases hl5
  have nh6 : ht ≠ l6 := fun z => by
    have := e3 _ _ gh
    rw [z, hl6] at this
    cases this
  refine q_forR1 (n := (m : Int)) (ea_cons (ev_var rfl) ea_nil) (by omega) (fun i σ' H' => (∃ u3 u7 u8 u9 u10 u11 u12 u13, σ' = [some (.int (n : Int)), some (.ref a), some (.int (m : Int)), u3, some (.ref ht), some (.ref l5), some (.ref l6), u7, u8, u9, u10, u11, u12, u13]) ∧ Ex H H' ∧ H' ht = some (.lst (hts.map V.int)) ∧ RWat H' l5 n m i (fun _ => True) ∧ RWat H' l6 n m i (fun _ => True)) ?_ ?_ ?_
  · intro H5 e5
    exact ⟨⟨none, none, none, none, none, none, none, none, rfl⟩, e14.trans e5, e5 _ _ (e4 _ _ (e3 _ _ gh)), ⟨[], [], e5 _ _ (e4 _ _ g5), .nil, rfl, .nil, fun r h => by cases h⟩, ⟨[], [], e5 _ _ g6, .nil, rfl, .nil, fun r h => by cases h⟩⟩
  · rintro i σ' H' hi ⟨⟨u3, u7, u8, u9, u10, u11, u12, u13, rfl⟩, e5, gh5, W5, W6⟩
    refine q_asgL (xs := []) (el_lst ea_nil (by decide)) fun f7 H5 hf7 e6 g7 => ?_
    refine q_asgL (xs := []) (el_lst ea_nil (by decide)) fun f8 H6 hf8 e7 g8 => ?_
    have e67 := e6.trans e7
    have h80 : H' f8 = none := fresh_back e6 hf8
    have n78 : f7 ≠ f8 := fun z => by
      rw [← z, g7] at hf8
      cases hf8
    refine q_forR1 (n := (n : Int)) (ea_cons (ev_var rfl) ea_nil) (by omega) (fun k σ' H'' => (∃ u9 u10 u11 u12 u13, σ' = [some (.int (n : Int)), some (.ref a), some (.int (m : Int)), some (.int (i : Int)), some (.ref ht), some (.ref l5), some (.ref l6), some (.ref f7), some (.ref f8), u9, u10, u11, u12, u13]) ∧ Ex H' H'' ∧ PWat H'' f7 m k ∧ PWat H'' f8 m k) ?_ ?_ ?_
    · intro H7 e8
      exact ⟨⟨u9, u10, u11, u12, u13, rfl⟩, e67.trans e8, ⟨[], [], e8 _ _ (e7 _ _ g7), .nil, rfl, fun a h => by cases h⟩, ⟨[], [], e8 _ _ g8, .nil, rfl, fun a h => by cases h⟩⟩
    · rintro k σ' H'' hk ⟨⟨u9, u10, u11, u12, u13, rfl⟩, e8, P7, P8⟩
      have e58 := e5.trans e8
      obtain ⟨j, hj, ej⟩ := int_mod (x := (i : Int) * (n : Int) + (k : Int)) (n := 50) (by decide)
      let d := at0 r (8 + j)
      have hd := hD.at (8 + j)
      refine q_asg (v := .int d) (ev_int (ev_atI (ex_l e58 hR) (i := 8 + j) (by omega) (z := 8 + ((i : Int) * (n : Int) + (k : Int)) % 50) (by rw [show ((i : Int) * (n : Int) + (k : Int)) % 50 = (j : Int) from ej]; omega) (ev_var rfl) (ev_add ev_c (ev_mod (by decide) (ev_int (ev_add (ev_mulR (by omega) (by omega) (ev_var rfl) (ev_var rfl)) (ev_var rfl))) ev_c)))) fun H7 e9 => ?_
      obtain ⟨ha1, ha2⟩ := em_nat (x := d) (n := m) (by omega)
      let af := (d % (m : Int)).toNat
      refine q_asg (v := .int (af : Int)) (ev_is (ev_mod (j := (m : Int)) (by omega) (ev_var rfl) (ev_var rfl)) (by rw [ha1])) fun H8 e10 => ?_
      obtain ⟨wi, hw1, hw2⟩ : ∃ wi : Nat, (3 + d / 7 % 3 = (wi : Int)) ∧ 3 ≤ wi ∧ wi ≤ 5 := ⟨(3 + d / 7 % 3).toNat, by omega, by omega, by omega⟩
      refine q_asg (v := .int (wi : Int)) (ev_is (ev_add ev_c (ev_mod (by decide) (ev_div (by decide) (by decide) (ev_var rfl) ev_c) ev_c)) (by rw [hw1])) fun H9 e11 => ?_
      have e8b := ((e8.trans e9).trans e10).trans e11
      have e5b := e5.trans e8b
      let b1 : Bool := decide (at0 r 7 % 3 = 0)
      let b2 : Bool := decide (at0 r (58 - i - k) % 7 = 0)
      obtain ⟨mo, hm1, hm2⟩ : ∃ mo : Nat, (if (b1 && b2) = true then (1 : Int) else 0) = (mo : Int) ∧ mo ≤ 1 := by
        cases b1 && b2
        · exact ⟨0, rfl, by decide⟩
        · exact ⟨1, rfl, by decide⟩
      have ei : ∀ x : Int, decide (V.int x = V.int 0) = decide (x = 0) := fun x => by
        rw [Bool.eq_iff_iff, decide_eq_true_eq, decide_eq_true_eq]
        exact ⟨fun z => by injection z, fun z => by rw [z]⟩
      refine q_asg (v := .int (mo : Int)) (ev_is (ev_intB (b := b1 && b2) (ev_andV (a := b1) (b := b2) (ev_is (ev_op (ev_mod (by decide) (ev_int (ev_atI (ex_l e5b hR) (i := 7) (by omega) rfl (ev_var rfl) ev_c)) ev_c) ev_c (rv_eq rfl)) (by rw [ei])) fun _ => ev_is (ev_op (ev_mod (by decide) (ev_int (ev_atI (ex_l e5b hR) (i := 58 - i - k) (by omega) (by omega) (ev_var rfl) (ev_sub (ev_sub ev_c (ev_var rfl)) (ev_var rfl)))) ev_c) ev_c (rv_eq rfl)) (by rw [ei]))) (by rw [hm1])) fun H10 e12' => ?_
      have e8c := e8b.trans e12'
      have e8d := (e9.trans e10).trans (e11.trans e12')
      have h1 := htd af
      have h2 := htd i
      obtain ⟨w2, hw3, hw4⟩ : ∃ w2 : Nat, (wi : Int) + at0 hts af - at0 hts i + (mo : Int) = (w2 : Int) ∧ w2 ≤ 100 := ⟨((wi : Int) + at0 hts af - at0 hts i + (mo : Int)).toNat, by omega, by omega⟩
      refine q_appPair (a := (af, btw wi d)) (P7.mono e8d) (by omega) (ev_var rfl) (ep_pair (ev_var rfl) (ev_call (ea_cons (ev_var rfl) (ea_cons (ev_var rfl) ea_nil)) (sv_bt (by omega)))) ⟨ha2, btw_bw, by show (btw wi d).length ≤ 100; rw [btw_len]; omega⟩ fun H11 e13 us ys hus P7' => ?_
      have e8e := (e8c.trans e13).mut (o := .lst ys) hf7
      have P8' := (P8.mono (e8d.trans e13)).other (o := .lst ys) hus n78.symm
      generalize L2.upd H11 f7 (.lst ys) = G at P7' P8' e8e ⊢
      have gh' := e8e _ _ gh5
      refine s_appPair (a := (af, btw w2 (d + 1))) P8' (by omega) (ev_var rfl) (ep_pair (ev_var rfl) (ev_call (ea_cons (ev_is (ev_add (ev_sub (ev_add (ev_var rfl) (ev_atI (sq_of gh') (i := af) (by omega) rfl (ev_var rfl) (ev_var rfl))) (ev_atI (sq_of gh') (i := i) (by omega) rfl (ev_var rfl) (ev_var rfl))) (ev_var rfl)) (by rw [hw3])) (ea_cons (ev_add (ev_var rfl) ev_c) ea_nil)) (sv_bt (by omega)))) ⟨ha2, btw_bw, by show (btw w2 _).length ≤ 100; rw [btw_len]; omega⟩ fun H12 e14' us2 ys2 hus2 P8'' => ⟨⟨_, _, _, _, _, rfl⟩, (e8e.trans e14').mut h80, (P7'.mono e14').other hus2 n78, P8''⟩
    · rintro σ' H'' ⟨⟨u9, u10, u11, u12, u13, rfl⟩, e8, P7, P8⟩
      rw [Int.toNat_natCast] at P7 P8
      obtain ⟨xs7, r7, p71, p72, p73, p74⟩ := P7
      obtain ⟨xs8, r8, p81, p82, p83, p84⟩ := P8
      refine q_appRow (r := r7) (W5.mono e8) (by omega) (ev_var rfl) (ep_tup pair_sol (P := PairP) (EvP.of_ev (ev_var rfl) fun H9 e9 => ⟨f7, xs7, rfl, e9 _ _ p71, p72.mono pair_sol e9⟩)) p73 p74 trivial fun H9 e9 ys W5' => ?_
      have e59 := e8.trans e9
      have g5' : ∃ us, H9 l5 = some (.lst us) := by
        obtain ⟨xs, R, k1, _⟩ := W5.mono e59
        exact ⟨xs, k1⟩
      obtain ⟨us5, hus5⟩ := g5'
      have W6' := (W6.mono e59).other (o := .lst ys) hus5 n56.symm
      have n85 : f8 ≠ l5 := fun z => by
        have := W5
        obtain ⟨xs, R, k1, _⟩ := this
        rw [z, k1] at h80
        cases h80
      have p8' : (L2.upd H9 l5 (.lst ys)) f8 = some (.lst xs8) := by rw [upd_ne n85]; exact e9 _ _ p81
      have p8L := (p82.mono pair_sol e9).upd pair_sol (o := .lst ys) hus5
      have gh' : (L2.upd H9 l5 (.lst ys)) ht = some (.lst (hts.map V.int)) := by rw [upd_ne nh5]; exact e59 _ _ gh5
      have eH := (e5.trans e59).mut (o := .lst ys) h50
      generalize L2.upd H9 l5 (.lst ys) = G at W5' W6' p8' p8L gh' eH ⊢
      refine s_appRow (r := r8) W6' (by omega) (ev_var rfl) (ep_tup pair_sol (P := PairP) (EvP.of_ev (ev_var rfl) fun H10 e10 => ⟨f8, xs8, rfl, e10 _ _ p8', p8L.mono pair_sol e10⟩)) p83 p84 trivial fun H10 e10 ys2 W6'' => ?_
      have g6' : ∃ us, H10 l6 = some (.lst us) := by
        obtain ⟨xs, R, k1, _⟩ := W6'.mono e10
        exact ⟨xs, k1⟩
      obtain ⟨us6, hus6⟩ := g6'
      exact ⟨⟨_, _, _, _, _, _, _, _, rfl⟩, (eH.trans e10).mut h60, by rw [upd_ne nh6]; exact e10 _ _ gh', (W5'.mono e10).other hus6 n56, W6''⟩
  · rintro σ' H' ⟨⟨u3, u7, u8, u9, u10, u11, u12, u13, rfl⟩, e5, gh5, W5, W6⟩
    rw [Int.toNat_natCast] at W5 W6
    obtain ⟨x5, R5, a1, a2, a3, a4, _⟩ := W5
    obtain ⟨x6, R6, c1, c2, c3, c4, _⟩ := W6
    refine s_retLst2P (tab_mo (R := R5)) (tab_mo (R := R6)) (ep_tup line_sol (P := LineP) (as := R5) (EvP.of_ev (ev_var rfl) fun H9 e9 => ⟨l5, x5, rfl, e9 _ _ a1, a2.mono line_sol e9⟩)) (fun H1 e1 => ep_tup line_sol (P := LineP) (as := R6) (EvP.of_ev (ev_var rfl) fun H9 e9 => ⟨l6, x6, rfl, (e1.trans e9) _ _ c1, c2.mono line_sol (e1.trans e9)⟩)) fun p x y H7 hp e7 h7 hx hy => q m R5 R6 m1 m6 a3 a4 c3 c4 p x y H7 (fresh_back e5 hp) (e5.trans e7) h7 hx hy
end
end Ver
namespace Ver
open PySem PySem.Spec PyProof.Rows L2 Evl
/-! ### the texts of a group -/
def exr (n : Nat) (a : List Int) : List (List Int) := (List.range n).map fun k : Nat => a ++ [(k : Int)]
def exts (n : Nat) : List (List Int) → List (List Int)
  | [] => []
  | a :: l => exr n a ++ exts n l
theorem exts_app (n : Nat) : ∀ l k : List (List Int), exts n (l ++ k) = exts n l ++ exts n k
  | [], _ => rfl
  | a :: l, k => by
    show exr n a ++ exts n (l ++ k) = (exr n a ++ exts n l) ++ exts n k
    rw [exts_app n l k, List.append_assoc]
theorem exts_len (n : Nat) : ∀ l : List (List Int), (exts n l).length = l.length * n
  | [] => by simp [exts]
  | a :: l => by
    show (exr n a ++ exts n l).length = (l.length + 1) * n
    rw [List.length_append, exts_len n l, Nat.add_mul]
    unfold exr
    rw [List.length_map, List.length_range]
    omega
theorem exts_mem {n : Nat} : ∀ {l : List (List Int)} {b : List Int}, b ∈ exts n l ↔ ∃ a ∈ l, ∃ k, k < n ∧ b = a ++ [(k : Int)]
  | [], b => by simp [exts]
  | a :: l, b => by
    show b ∈ exr n a ++ exts n l ↔ _
    rw [List.mem_append, exts_mem]
    constructor
    · rintro (h | ⟨c, hc, h⟩)
      · obtain ⟨k, hk, rfl⟩ := List.mem_map.mp h
        exact ⟨a, List.mem_cons_self .., k, List.mem_range.mp hk, rfl⟩
      · exact ⟨c, List.mem_cons_of_mem _ hc, h⟩
    · rintro ⟨c, hc, k, hk, rfl⟩
      rcases List.mem_cons.mp hc with rfl | hc
      · exact .inl (List.mem_map.mpr ⟨k, List.mem_range.mpr hk, rfl⟩)
      · exact .inr ⟨c, hc, k, hk, rfl⟩
def stT (n : Nat) : Nat → List (List Int) × Nat
  | 0 => ([[]], 0)
  | t + 1 => ((stT n t).1 ++ exts n ((stT n t).1.drop (stT n t).2), (stT n t).1.length)
def geo (n : Nat) : Nat → Nat
  | 0 => 1
  | t + 1 => geo n t + n ^ (t + 1)
structure StOk (n t : Nat) : Prop where
  len : (stT n t).1.length = geo n t
  op : (stT n t).2 + n ^ t = geo n t
  short : ∀ a ∈ (stT n t).1, a.length ≤ t
  clo : ∀ a ∈ (stT n t).1, a.length < t → ∀ k, k < n → a ++ [(k : Int)] ∈ (stT n t).1
  lv : ∀ a ∈ (stT n t).1, a.length = t → a ∈ (stT n t).1.drop (stT n t).2
theorem st_ok (n : Nat) : ∀ t, StOk n t
  | 0 => ⟨rfl, by show 0 + n ^ 0 = 1; rw [Nat.pow_zero], fun a h => by
      have : a = [] := List.mem_singleton.mp h
      subst this
      exact Nat.le_refl 0, fun a _ h => absurd h (Nat.not_lt_zero _), fun a h _ => h⟩
  | t + 1 => by
    have ih := st_ok n t
    have h1 := ih.len
    have h2 := ih.op
    have e1 : (stT n (t + 1)).1 = (stT n t).1 ++ exts n ((stT n t).1.drop (stT n t).2) := rfl
    have e2 : (stT n (t + 1)).2 = (stT n t).1.length := rfl
    refine ⟨?_, ?_, fun a ha => ?_, fun a ha hl k hk => ?_, fun a ha hl => ?_⟩
    · rw [e1, List.length_append, exts_len, List.length_drop, h1]
      show _ = geo n t + n ^ (t + 1)
      rw [show geo n t - (stT n t).2 = n ^ t by omega, Nat.pow_succ]
    · rw [e2, h1]
      rfl
    · rw [e1] at ha
      rcases List.mem_append.mp ha with ha | ha
      · have := ih.short a ha
        omega
      · obtain ⟨b, hb, k, hk, rfl⟩ := exts_mem.mp ha
        have := ih.short b (List.mem_of_mem_drop hb)
        rw [List.length_append]
        show b.length + 1 ≤ _
        omega
    · rw [e1] at ha ⊢
      rcases List.mem_append.mp ha with ha | ha
      · by_cases c : a.length < t
        · exact List.mem_append_left _ (ih.clo a ha c k hk)
        · have := ih.short a ha
          exact List.mem_append_right _ (exts_mem.mpr ⟨a, ih.lv a ha (by omega), k, hk, rfl⟩)
      · have ha2 := ha
        obtain ⟨b, hb, j, hj, rfl⟩ := exts_mem.mp ha
        have hbl := ih.short b (List.mem_of_mem_drop hb)
        rw [List.length_append] at hl
        have hl : b.length + 1 < t + 1 := hl
        have h3 := ih.clo b (List.mem_of_mem_drop hb) (by omega) j hj
        by_cases c : (b ++ [(j : Int)]).length < t
        · exact List.mem_append_left _ (ih.clo _ h3 c k hk)
        · have := ih.short _ h3
          exact List.mem_append_right _ (exts_mem.mpr ⟨_, ih.lv _ h3 (by omega), k, hk, rfl⟩)
    · rw [e1] at ha
      rw [e1, e2]
      rcases List.mem_append.mp ha with ha | ha
      · have := ih.short a ha
        omega
      · rw [List.drop_append_of_le_length (Nat.le_refl _), List.drop_length]
        exact ha
def okNG (n g : Nat) : Bool := (decide (n = 1) && decide (g ≤ 12)) || ((decide (n = 2) && decide (g ≤ 3)) || decide (g ≤ 2))
theorem geo_ok : ∀ n, n < 7 → ∀ g, g < 13 → okNG n g = true → (∀ t, t < g → geo n t ≤ 60) ∧ n ^ g ≤ 100 := by decide +kernel
theorem geo_pos (n : Nat) : ∀ t, 1 ≤ geo n t
  | 0 => Nat.le_refl 1
  | t + 1 => Nat.le_trans (geo_pos n t) (Nat.le_add_right _ _)
theorem q_lst1LL {σ : L2.St} {H : Hp} {D : Ends} {tz : TS} {te : TE} {xs : List V} {i : Nat} (h : EvL te σ H xs) (k : ∀ p ys H1, H p = none → Ex H H1 → H1 p = some (.lst ys) → LLs H1 ys [xs] → tz D (σ.set i (some (.ref p))) H1) : tSeq (tAsg (tLst (tCons te tNil)) (gName i)) tz D σ H :=
  h H (Ex.refl H) _ fun r H1 hr e1 h1 => ⟨by show 1 ≤ sizeLine; decide, fun p hp => k p [.ref r] _ (fresh_back e1 hp) (e1.trans (Ex.new hp)) upd_same ⟨rfl, fun i a ha => by
    match i, ha with
    | 0, ha =>
      cases ha
      exact ⟨r, rfl, Ex.new hp _ _ h1⟩⟩⟩
section
variable {P : Program} {w : World} {K : PySem.W.Frag} {mg : Str → Option Value} {base : Heap} {C_Machine : Addr}
def spGr : Sp := fun vs H Q _ => ∃ n g : Nat, vs = [.int (n : Int), .int (g : Int)] ∧ 1 ≤ n ∧ n ≤ 6 ∧ 1 ≤ g ∧ g ≤ 12 ∧ okNG n g = true ∧ ∀ (m : Nat) (R : Tbl), 1 ≤ m → m ≤ 60 → R.length = m → RG n m R → RetTab H Q R
theorem has_gr (F : At K mg "_law_grouped_rules" s__law_grouped_rules) (T : Top K mg C_Machine) (h1 : Has P w K mg base "_law_number" s__law_number ["number", "options"] 2 spNum) : Has P w K mg base "_law_grouped_rules" s__law_grouped_rules ["size", "group"] 3 spGr := by
  obtain ⟨f, fd, F, m⟩ := F.ex
  obtain ⟨f1, fd1, _, G__law_number, b__law_number, m__law_number, k__law_number⟩ := h1
  refine ⟨f, fd, F, F.ok S__law_grouped_rules (fun vs H Q E h => ?_) (fun cdv A outer s H vs Q E hr h => ?_), F.binds fun _ _ _ _ _ _ us hl => match us, hl with | [_, _], _ => rfl, m, F.kp⟩
  · obtain ⟨n, g, rfl, _⟩ := h
    rfl
  obtain ⟨n, g, rfl, n1, n6, g1, g12, hok, q⟩ := h
  obtain ⟨hgeo, hpow⟩ := geo_ok n (by omega) g (by omega) hok
  refine ⟨_, (pss_cons
    (ps_set (i := 2) S__law_grouped_rules.nd rfl (Or.inr rfl) (pe_lst (pa_cons (pe_lst pa_nil) pa_nil)))
    (pss_cons
    (ps_set (i := 3) S__law_grouped_rules.nd rfl (Or.inl rfl) pe_int)
    (pss_cons
    (ps_for PassesOwn.never rfl (pi_range1 rfl T.z_range (pa_cons (pe_op op_sub (pv 1) pe_int) pa_nil)) (pg_name (i := 4) S__law_grouped_rules.nd rfl (Or.inl rfl)) (pss_cons
    (ps_set (i := 5) S__law_grouped_rules.nd rfl (Or.inl rfl) (pe_slice sl_list (pv 2) (po_some (pv 3)) po_none))
    (pss_cons
    (ps_set (i := 3) S__law_grouped_rules.nd rfl (Or.inl rfl) (pe_callB call_len_seq rfl T.z_len PySem.boot_len (pa_cons (pv 2) pa_nil)))
    (pss_one
    (ps_for PassesOwn.never rfl (pi_list (pv 5)) (pg_name (i := 6) S__law_grouped_rules.nd rfl (Or.inr rfl)) (pss_one
    (ps_set (i := 2) S__law_grouped_rules.nd rfl (Or.inr rfl) (pe_op op_cat (pv 2) (pe_lc (own := [("k", 7)]) (g := gName 7) (tt := tYes) rfl S__law_grouped_rules.nd (pi_range1 rfl T.z_range (pa_cons (pv 0) pa_nil)) (blkOk_by (N := N__law_grouped_rules) (sc := defScope s__law_grouped_rules) (by decide +kernel)) (fun _ _ _ _ _ => pg_name (i := 7) S__law_grouped_rules.nd rfl (Or.inl rfl)) (fun _ _ _ _ _ => pts_nil) (fun _ _ _ _ _ => (pe_op op_cat (pv 6) (pe_lst (pa_cons (pv 7) pa_nil)))))))))))))
    (pss_cons
    (ps_set (i := 8) S__law_grouped_rules.nd rfl (Or.inr rfl) pe_int)
    (pss_cons
    (ps_for PassesOwn.never rfl (pi_range1 rfl T.z_range (pa_cons (pv 1) pa_nil)) (pg_name (i := 4) S__law_grouped_rules.nd rfl (Or.inl rfl)) (pss_one
    (ps_set (i := 8) S__law_grouped_rules.nd rfl (Or.inr rfl) (pe_op op_mul (pv 8) (pv 0)))))
    (pss_cons
    (ps_set (i := 9) S__law_grouped_rules.nd rfl (Or.inl rfl) (pe_lst pa_nil))
    (pss_cons
    (ps_for PassesOwn.never rfl (pi_list (pv 2)) (pg_name (i := 6) S__law_grouped_rules.nd rfl (Or.inr rfl)) (pss_cons
    (ps_set (i := 10) S__law_grouped_rules.nd rfl (Or.inr rfl) pe_int)
    (pss_cons
    (ps_for PassesOwn.never rfl (pi_list (pv 6)) (pg_name (i := 7) S__law_grouped_rules.nd rfl (Or.inl rfl)) (pss_one
    (ps_set (i := 10) S__law_grouped_rules.nd rfl (Or.inr rfl) (pe_op op_add (pe_op op_mul (pv 10) (pv 0)) (pv 7)))))
    (pss_one
    (ps_if (pt_cmpR op_eq (pe_op op_add (pe_callB call_len_seq rfl T.z_len PySem.boot_len (pa_cons (pv 6) pa_nil)) pe_int) (pv 1) (nomark _)) (pss_one
    (ps_expr (pe_bm PySem.F.plainAttrs_list PySem.F.slot_list_append PySem.F.type_list_append mt_append (pv 9) (pa_cons (pe_callTy call_tuple_of rfl T.z_tuple (by decide +kernel) (pa_cons (pe_lc (own := [("k", 7)]) (g := gName 7) (tt := tYes) rfl S__law_grouped_rules.nd (pi_range1 rfl T.z_range (pa_cons (pv 0) pa_nil)) (blkOk_by (N := N__law_grouped_rules) (sc := defScope s__law_grouped_rules) (by decide +kernel)) (fun _ _ _ _ _ => pg_name (i := 7) S__law_grouped_rules.nd rfl (Or.inl rfl)) (fun _ _ _ _ _ => pts_nil) (fun _ _ _ _ _ => (pe_tup (pa_cons pe_int (pa_cons (pe_call G__law_number (hr.mono (by decide)) rfl m__law_number k__law_number b__law_number .nil pass0 (pa_cons (pe_op op_add (pe_op op_mul (pv 10) (pv 0)) (pv 7)) (pa_cons (pe_callB (call_max2 rfl) rfl T.z_max (by decide +kernel) (pa_cons pe_int (pa_cons (pv 8) pa_nil))) pa_nil))) pa_nil))))) pa_nil)) pa_nil)))) (pss_one
    (ps_expr (pe_bm PySem.F.plainAttrs_list PySem.F.slot_list_append PySem.F.type_list_append mt_append (pv 9) (pa_cons (pe_callTy call_tuple_of rfl T.z_tuple (by decide +kernel) (pa_cons (pe_lc (own := [("k", 7)]) (g := gName 7) (tt := tYes) rfl S__law_grouped_rules.nd (pi_range1 rfl T.z_range (pa_cons (pv 0) pa_nil)) (blkOk_by (N := N__law_grouped_rules) (sc := defScope s__law_grouped_rules) (by decide +kernel)) (fun _ _ _ _ _ => pg_name (i := 7) S__law_grouped_rules.nd rfl (Or.inl rfl)) (fun _ _ _ _ _ => pts_nil) (fun _ _ _ _ _ => (pe_tup (pa_cons (show PE _ _ (tBM K "list" (rIndexD K) _ _) from (pe_bm PySem.F.plainAttrs_list PySem.F.slot_list_index PySem.F.type_list_index (mt_indexD (hu65 hr)) (pv 2) (pa_cons (pe_op op_cat (pv 6) (pe_lst (pa_cons (pv 7) pa_nil))) pa_nil))) (pa_cons pe_str pa_nil))))) pa_nil)) pa_nil)))))))))
    (pss_one
    (ps_ret (pe_callTy call_tuple_of rfl T.z_tuple (by decide +kernel) (pa_cons (pv 9) pa_nil))))))))))), ?_⟩
  refine q_lst1LL (xs := []) (el_lst ea_nil (by decide)) fun p0 y0 H1 hp0 e1 g1 L1 => ?_
  refine q_asg (v := .int ((0 : Nat) : Int)) ev_c fun H2 e2 => ?_
  have gl : (g : Int) - 1 = ((g - 1 : Nat) : Int) := by omega
  refine q_forR1 (n := ((g - 1 : Nat) : Int)) (ea_cons (ev_is (ev_sub (ev_var rfl) ev_c) (by rw [gl])) ea_nil) (by omega) (fun t σ' H' => (∃ (p : Addr) (ys : List V) (u4 u5 u6 : Option V), σ' = [some (.int (n : Int)), some (.int (g : Int)), some (.ref p), some (.int ((stT n t).2 : Int)), u4, u5, u6, none, none, none, none] ∧ H' p = some (.lst ys) ∧ LLs H' ys (lis (stT n t).1)) ∧ Ex H H') ?_ ?_ ?_
  · intro H3 e3
    exact ⟨⟨p0, y0, none, none, none, rfl, e3 _ _ (e2 _ _ g1), L1.mono (e2.trans e3)⟩, (e1.trans e2).trans e3⟩
  · rintro t σ' H' ht ⟨⟨p, ys, u4, u5, u6, rfl, hp, hL⟩, e3⟩
    have ok := st_ok n t
    have hlen := hL.len
    rw [List.length_map] at hlen
    have hge := hgeo t (by omega)
    have ok1 := ok.len
    have ok2 := ok.op
    refine q_asgL (xs := ys.drop (stT n t).2) (by
      have z := el_sl (K := K) (te := tVar 2) (σ := [some (.int (n : Int)), some (.int (g : Int)), some (.ref p), some (.int ((stT n t).2 : Int)), some (.int (t : Int)), u5, u6, none, none, none, none]) (H := H') (lo := some ((stT n t).2 : Int)) (hi := none) (ev_var rfl) (eo_some (te := tVar 3) (ev_var rfl)) eo_none (sq_of hp)
      rw [cutV_suf] at z
      exact z) fun lp H4 hlp e4 g4 => ?_
    refine q_asg (v := .int ((stT n t).1.length : Int)) (ev_is (ev_cb (ea_cons (ev_var rfl) ea_nil) (rc_lenL (sq_of (e4 _ _ hp)))) (by rw [hlen])) fun H5 e5 => ?_
    have e45 := e4.trans e5
    have hLd := (hL.mono e45).drop (stT n t).2
    have edr : (lis (stT n t).1).drop (stT n t).2 = lis ((stT n t).1.drop (stT n t).2) := List.map_drop.symm
    rw [edr] at hLd
    refine s_forL (a := lp) (xs := ys.drop (stT n t).2) (ev_var rfl) (sq_of (e5 _ _ g4)) (fun j σ' H' => (∃ (p2 : Addr) (ys2 : List V) (u6 : Option V), σ' = [some (.int (n : Int)), some (.int (g : Int)), some (.ref p2), some (.int ((stT n t).1.length : Int)), some (.int (t : Int)), some (.ref lp), u6, none, none, none, none] ∧ H' p2 = some (.lst ys2) ∧ LLs H' ys2 (lis ((stT n t).1 ++ exts n (((stT n t).1.drop (stT n t).2).take j)))) ∧ Ex H5 H') ?_ ?_ ?_ ?_
    · intro H6 e6
      refine ⟨⟨p, ys, u6, rfl, e6 _ _ (e5 _ _ (e4 _ _ hp)), ?_⟩, e6⟩
      rw [List.take_zero]
      show LLs H6 ys (lis ((stT n t).1 ++ []))
      rw [List.append_nil]
      exact hL.mono (e45.trans e6)
    · rintro j σ' H' hj ⟨_, e6⟩
      exact sq_of (e6 _ _ (e5 _ _ g4))
    · rintro j x σ' H' hx ⟨⟨p2, ys2, u6, rfl, hp2, hL2⟩, e6⟩
      obtain ⟨a', r, ha', rfl, hr⟩ := (hLd.mono e6).get hx
      rw [List.getElem?_map] at ha'
      cases hh : ((stT n t).1.drop (stT n t).2)[j]? with
      | none => rw [hh] at ha'; cases ha'
      | some a =>
      rw [hh] at ha'
      cases ha'
      have ev : (List.range n).map (fun k : Nat => (a ++ [(k : Int)]).map V.int) = lis (exr n a) := by
        unfold exr lis
        rw [List.map_map]
        rfl
      have hshort := ok.short a (List.mem_of_mem_drop (List.mem_of_getElem? hh))
      have hjlt := (List.getElem?_eq_some_iff.mp hh).1
      rw [List.length_drop] at hjlt
      refine s_asgCatLL (as := lis ((stT n t).1 ++ exts n (((stT n t).1.drop (stT n t).2).take j))) (bs := (List.range n).map (fun k : Nat => (a ++ [(k : Int)]).map V.int)) (ev_var rfl) hp2 hL2 (fun H7 e7 => ell_lcR (n := n) _ (ea_cons (ev_var rfl) ea_nil) (by omega) (fun x => rfl) fun k H8 e8 hk => ?_) ?_ fun l zs H7 hl7 e7 h7 L7 => ⟨⟨l, zs, _, rfl, h7, ?_⟩, e6.trans e7⟩
      · rw [List.map_append]
        exact el_catB (xs := a.map V.int) (ev_var rfl) (e8 _ _ (e7 _ _ hr)) (el_lst (ea_cons (ev_var rfl) ea_nil) (by show 1 ≤ 100000; decide)) (by rw [List.length_map]; show a.length + 1 ≤ 100000; omega)
      · have hm : j * n ≤ 60 * 6 := Nat.mul_le_mul (by omega) n6
        rw [List.length_map, List.length_append, exts_len, List.length_map, List.length_range, List.length_take, List.length_drop, Nat.min_eq_left (by omega)]
        omega
      · rw [ev, ← List.map_append] at L7
        have et : ((stT n t).1.drop (stT n t).2).take (j + 1) = ((stT n t).1.drop (stT n t).2).take j ++ [a] := by
          rw [List.take_add_one, hh]
          rfl
        rw [et, exts_app]
        show LLs H7 zs (lis ((stT n t).1 ++ (exts n (((stT n t).1.drop (stT n t).2).take j) ++ (exr n a ++ []))))
        rw [List.append_nil, ← List.append_assoc]
        exact L7
    · rintro σ' H' ⟨⟨p2, ys2, u6, rfl, hp2, hL2⟩, e6⟩
      refine ⟨⟨p2, ys2, _, _, _, rfl, hp2, ?_⟩, (e3.trans e45).trans e6⟩
      rw [List.take_of_length_le (by rw [List.length_drop, List.length_drop, hlen]; exact Nat.le_refl _)] at hL2
      exact hL2
  · rintro σ' H' ⟨⟨p, ys, u4, u5, u6, rfl, hp, hL⟩, e3⟩
    rw [Int.toNat_natCast] at hL ⊢
    have ok := st_ok n (g - 1)
    have hge := hgeo (g - 1) (by omega)
    have hgp := geo_pos n (g - 1)
    have okl := ok.len
    generalize hTs : (stT n (g - 1)).1 = as at hL okl ok
    have hsh : ∀ a ∈ as, a.length ≤ g - 1 := by rw [← hTs]; exact (st_ok n (g - 1)).short
    have hcl : ∀ a ∈ as, a.length < g - 1 → ∀ k, k < n → a ++ [(k : Int)] ∈ as := by rw [← hTs]; exact (st_ok n (g - 1)).clo
    refine q_asg (v := .int ((n ^ 0 : Nat) : Int)) (ev_is ev_c (by rw [Nat.pow_zero]; rfl)) fun H4 e4 => ?_
    refine q_forR1 (n := (g : Int)) (ea_cons (ev_var rfl) ea_nil) (by omega) (fun i σ' H' => (∃ u4, σ' = [some (.int (n : Int)), some (.int (g : Int)), some (.ref p), some (.int ((stT n (g - 1)).2 : Int)), u4, u5, u6, none, some (.int ((n ^ i : Nat) : Int)), none, none]) ∧ Ex H4 H') ?_ ?_ ?_
    · intro H5 e5
      exact ⟨⟨u4, rfl⟩, e5⟩
    · rintro i σ' H' hi ⟨⟨u4, rfl⟩, e5⟩
      exact s_asg (v := .int ((n ^ (i + 1) : Nat) : Int)) (ev_is (ev_mulR (by omega) (by omega) (ev_var rfl) (ev_var rfl)) (by rw [Nat.pow_succ, Int.natCast_mul])) fun H5 e6 => ⟨⟨_, rfl⟩, e5.trans e6⟩
    · rintro σ' H' ⟨⟨u4, rfl⟩, e5⟩
      rw [Int.toNat_natCast]
      have e35 := (e3.trans e4).trans e5
      have hp5 := e5 _ _ (e4 _ _ hp)
      have hL5 := hL.mono (e4.trans e5)
      have hlen := hL5.len
      rw [List.length_map] at hlen
      refine q_asgL (xs := []) (el_lst ea_nil (by decide)) fun l H6 hl6 e6 g6 => ?_
      have hl0 : H l = none := fresh_back e35 hl6
      refine q_forL (a := p) (xs := ys) (ev_var rfl) (sq_of (e6 _ _ hp5)) (fun i σ' H'' => (∃ u6 u7 u10, σ' = [some (.int (n : Int)), some (.int (g : Int)), some (.ref p), some (.int ((stT n (g - 1)).2 : Int)), u4, u5, u6, u7, some (.int ((n ^ g : Nat) : Int)), some (.ref l), u10]) ∧ Ex H' H'' ∧ RWat H'' l n as.length i (fun _ => True)) ?_ ?_ ?_ ?_
      · intro H7 e7
        exact ⟨⟨u6, none, none, rfl⟩, e6.trans e7, [], [], e7 _ _ g6, .nil, rfl, .nil, fun r h => by cases h⟩
      · rintro i σ' H'' hi ⟨_, e7, _⟩
        exact sq_of (e7 _ _ hp5)
      · rintro i x σ' H'' hx ⟨⟨u6, u7, u10, rfl⟩, e7, hW⟩
        obtain ⟨a', r, ha', rfl, hr⟩ := hL5.get hx
        rw [List.getElem?_map] at ha'
        have hilt := (List.getElem?_eq_some_iff.mp hx).1
        cases hh : as[i]? with
        | none => rw [hh] at ha'; cases ha'
        | some a =>
        rw [hh] at ha'
        cases ha'
        have ham := List.mem_of_getElem? hh
        have hal := hsh a ham
        refine q_asg (v := .int 0) ev_c fun H7 e8 => ?_
        have e78 := e7.trans e8
        refine q_forL (a := r) (xs := a.map V.int) (ev_var rfl) (sq_of (e78 _ _ hr)) (fun j σ' H3 => (∃ (u7 : Option V) (y : Int), σ' = [some (.int (n : Int)), some (.int (g : Int)), some (.ref p), some (.int ((stT n (g - 1)).2 : Int)), u4, u5, some (.ref r), u7, some (.int ((n ^ g : Nat) : Int)), some (.ref l), some (.int y)]) ∧ Ex H7 H3) ?_ ?_ ?_ ?_
        · intro H8 e9
          exact ⟨⟨u7, 0, rfl⟩, e9⟩
        · rintro j σ' H3 hj ⟨_, e9⟩
          exact sq_of (e9 _ _ (e78 _ _ hr))
        · rintro j x σ' H3 hx2 ⟨⟨u7, y, rfl⟩, e9⟩
          rw [List.getElem?_map] at hx2
          cases hj : a[j]? with
          | none => rw [hj] at hx2; cases hx2
          | some z =>
          rw [hj] at hx2
          cases hx2
          exact s_asg (v := .int (y * (n : Int) + z)) (ev_add (ev_mulR (by omega) (by omega) (ev_var rfl) (ev_var rfl)) (ev_var rfl)) fun H8 e10 => ⟨⟨_, _, rfl⟩, e9.trans e10⟩
        · rintro σ' H3 ⟨⟨u7, y, rfl⟩, e9⟩
          have e79 := e78.trans e9
          have hr9 := e79 _ _ hr
          have hW9 := hW.mono (e8.trans e9)
          refine s_if (et_eqI (ev_add (ev_is (ev_cb (ea_cons (ev_var rfl) ea_nil) (rc_lenL (sq_of hr9))) (by rw [List.length_map])) ev_c) (ev_var rfl)) (fun hb H8 e10 => ?_) (fun hb H8 e10 => ?_)
          · let o2 : Nat := if n ^ g > 2 then n ^ g else 2
            have ho2 : 1 ≤ o2 ∧ o2 ≤ 1000 := by
              show 1 ≤ (if n ^ g > 2 then n ^ g else 2) ∧ (if n ^ g > 2 then n ^ g else 2) ≤ 1000
              split <;> omega
            have eo2 : (if ((n ^ g : Nat) : Int) > 2 then ((n ^ g : Nat) : Int) else 2) = (o2 : Int) := by
              show _ = ((if n ^ g > 2 then n ^ g else 2 : Nat) : Int)
              by_cases c : n ^ g > 2
              · rw [if_pos c, if_pos (by omega)]
              · rw [if_neg c, if_neg (by omega)]
                rfl
            let fr : Nat → Rul := fun k => (0, numW (y * (n : Int) + (k : Int)) o2)
            exact s_appRow (r := (List.range n).map fr) (hW9.mono e10) (by omega) (ev_var rfl) (ep_line fr (ea_cons (ev_var rfl) ea_nil) (by omega) (fun x => rfl) (fun k H9 e11 hk => ev_c) fun k H9 e11 hk => ev_call (ea_cons (ev_add (ev_mulR (by omega) (by omega) (ev_var rfl) (ev_var rfl)) (ev_var rfl)) (ea_cons (ev_is (ev_max2 ev_c (ev_var rfl)) (by rw [eo2])) ea_nil)) (sv_num ho2.1 ho2.2)) range_map_len (range_map_all fun k hk => ⟨by show 0 < as.length; omega, nW_bw _ _, numW_len ho2.1 ho2.2⟩) trivial fun H9 e11 ys2 hW2 => ⟨⟨_, _, _, rfl⟩, ((e79.trans e10).trans e11).mut hl6, hW2⟩
          · have hne : ¬ ((a.length : Nat) : Int) + 1 = (g : Int) := of_decide_eq_false hb
            have hmem : ∀ k, k < n → a ++ [(k : Int)] ∈ as := hcl a ham (by omega)
            let fr : Nat → Rul := fun k => (plI as (a ++ [(k : Int)]), [])
            exact s_appRow (r := (List.range n).map fr) (hW9.mono e10) (by omega) (ev_var rfl) (ep_line fr (ea_cons (ev_var rfl) ea_nil) (by omega) (fun x => rfl) (fun k H9 e11 hk => ev_indexLL (hmem k hk) (ev_var rfl) (((e79.trans e10).trans e11) _ _ hp5) (hL5.mono ((e79.trans e10).trans e11)) (by
              rw [List.map_append]
              exact el_catB (xs := a.map V.int) (ev_var rfl) (e11 _ _ (e10 _ _ hr9)) (el_lst (ea_cons (ev_var rfl) ea_nil) (by show 1 ≤ 100000; decide)) (by rw [List.length_map]; show a.length + 1 ≤ 100000; omega))) fun k H9 e11 hk => ev_is ev_c (by rw [mt_is])) range_map_len (range_map_all fun k hk => ⟨plI_lt (hmem k hk), Bw.nil, Nat.zero_le _⟩) trivial fun H9 e11 ys2 hW2 => ⟨⟨_, _, _, rfl⟩, ((e79.trans e10).trans e11).mut hl6, hW2⟩
      · rintro σ' H'' ⟨⟨u6, u7, u10, rfl⟩, e7, hW⟩
        rw [hlen] at hW
        exact s_retRules hW (ev_var rfl) fun v R H8 e8 hv h1 h2 h3 => q as.length R (by omega) (by omega) h1 h2 v H8 ((e35.trans e7).trans e8) hv
end
end Ver
namespace Ver
open PySem PySem.Spec PyProof.Rows L2 Evl
section
variable {α : Type} {P : α → HV} {H : Hp} {σ : L2.St} {K : PySem.W.Frag} {ta tb te : TE}
theorem LsP.append {xs ys : List V} {as bs : List α} (h : LsP P H xs as) (g : LsP P H ys bs) : LsP P H (xs ++ ys) (as ++ bs) := ⟨by rw [List.length_append, List.length_append, h.len, g.len], fun i a q => by
  by_cases hi : i < as.length
  · rw [List.getElem?_append_left hi] at q
    obtain ⟨x, a1, a2⟩ := h.at_ i a q
    exact ⟨x, by rw [List.getElem?_append_left (by rw [h.len]; exact hi)]; exact a1, a2⟩
  · rw [List.getElem?_append_right (by omega)] at q
    obtain ⟨x, a1, a2⟩ := g.at_ _ a q
    exact ⟨x, by rw [List.getElem?_append_right (by rw [h.len]; omega), h.len]; exact a1, a2⟩⟩
/-- t + u -/
theorem ep_catA (S : Sol P) {as bs : List α} (hz : as.length + bs.length ≤ 100000) (h1 : EvP ta σ H (TupP P as)) (h2 : ∀ H1, Ex H H1 → EvP tb σ H1 (TupP P bs)) : EvP (tOp (rCatA K) ta tb) σ H (TupP P (as ++ bs)) := fun H1 e Q q =>
  h1 H1 e _ fun x H2 e2 ⟨a, xs, hx, ga, la⟩ => h2 H2 (e.trans e2) H2 (Ex.refl H2) _ fun y H3 e3 ⟨b, ys, hy, gb, lb⟩ => by
    subst hx hy
    have n1 := la.len
    have n2 := lb.len
    have ga3 := e3 _ _ ga
    have la3 := la.mono S e3
    refine ⟨a, b, xs, ys, rfl, rfl, st_of ga3, st_of gb, sz_of (by omega), fun hx => ?_, fun hx hy => ?_, fun hx hy p hp => ?_⟩
    · subst hx
      have : as = [] := List.eq_nil_of_length_eq_zero n1.symm
      subst this
      exact q _ H3 (e2.trans e3) ⟨b, ys, rfl, gb, lb⟩
    · subst hy
      have : bs = [] := List.eq_nil_of_length_eq_zero n2.symm
      subst this
      rw [List.append_nil] at q
      exact q _ H3 (e2.trans e3) ⟨a, xs, rfl, ga3, la3⟩
    · exact q _ _ ((e2.trans e3).trans (Ex.new hp)) ⟨p, _, rfl, upd_same, (la3.append lb).mono S (Ex.new hp)⟩
/-- t[:-1], t not empty -/
theorem ep_init (S : Sol P) {as : List α} {p : Addr} {xs : List V} (h0 : 1 ≤ as.length) (h : Ev te σ H (.ref p)) (hp : H p = some (.tup xs)) (hL : LsP P H xs as) : EvP (tSl (rSlT K) te tNoPart (tPart (tUn (rU fun i => .int (-i)) (tC (.int 1))))) σ H (TupP P (as.take (as.length - 1))) := fun H1 e Q q =>
  h H1 e _ fun H2 e2 => by
    have n1 := hL.len
    refine (eo_none (σ := σ)) H2 (Ex.refl H2) _ fun H3 e3 => (eo_some (σ := σ) (i := -1) (ev_un ev_c ru_neg)) H3 (Ex.refl H3) _ fun H4 e4 => ?_
    have e14 := (e.trans e2).trans (e3.trans e4)
    have es : HT.sIx xs.length xs.length (some (-1)) = xs.length - 1 := by
      show (if (-1 : Int) < 0 then (-1 + (xs.length : Int)).toNat else min (-1 : Int).toNat xs.length) = _
      rw [if_pos (by decide)]
      omega
    refine ⟨p, xs, rfl, st_of (e14 _ _ hp), fun hh => by rw [es] at hh; omega, fun l hl => ?_⟩
    have ec : cutV xs none (some (-1)) = xs.take (as.length - 1) := by
      unfold cutV
      rw [HT.sIx_none, es, Nat.sub_zero, List.drop_zero, n1]
    rw [ec]
    exact q _ _ ((e2.trans (e3.trans e4)).trans (Ex.new hl)) ⟨l, _, rfl, upd_same, ((hL.take _).mono S e14).mono S (Ex.new hl)⟩
/-- (x,) -/
theorem ep_tup1 (S : Sol P) {a : α} (h : EvP te σ H (P a)) : EvP (tTup (tCons te tNil)) σ H (TupP P [a]) := fun H1 e Q q =>
  h H1 e _ fun v H2 e2 hv => ⟨by show 1 ≤ sizeLine; decide, fun p hp => q _ _ (e2.trans (Ex.new hp)) ⟨p, _, rfl, upd_same, .cons (S.mono (Ex.new hp) hv) .nil⟩⟩
end
theorem LsP.last {α : Type} {P : α → HV} {H : Hp} {xs : List V} {as : List α} (h : LsP P H xs as) (h0 : 1 ≤ as.length) : ∃ a x, as[as.length - 1]? = some a ∧ atI xs (-1) = some x ∧ P a H x := by
  have n1 := h.len
  obtain ⟨x, a1, a2⟩ := h.at_ (as.length - 1) _ (List.getElem?_eq_getElem (by omega))
  refine ⟨_, x, List.getElem?_eq_getElem (by omega), ?_, a2⟩
  unfold atI ixN
  rw [if_neg (by decide), if_pos (by omega)]
  show xs[((-1 : Int) + (xs.length : Int)).toNat]? = some x
  rw [show ((-1 : Int) + (xs.length : Int)).toNat = as.length - 1 by omega]
  exact a1
theorem RG.mem {n m : Nat} {R : Tbl} (h : RG n m R) {r : List Rul} (hr : r ∈ R) : r.length = n ∧ ∀ a ∈ r, goodR m a := ⟨h.row r hr, fun a ha => ⟨h.low r hr a ha, h.bit r hr a ha, h.len r hr a ha⟩⟩
theorem RG.of {n m : Nat} {R : Tbl} (h : ∀ r ∈ R, r.length = n ∧ ∀ a ∈ r, goodR m a) : RG n m R := ⟨fun r hr => (h r hr).1, fun r hr a ha => ((h r hr).2 a ha).1, fun r hr a ha => ((h r hr).2 a ha).2.1, fun r hr a ha => ((h r hr).2 a ha).2.2⟩
theorem RG.weak {n m k : Nat} {R : Tbl} (h : RG n m R) (hm : m ≤ k) : RG n k R := .of fun r hr => ⟨h.row r hr, fun a ha => ⟨Nat.lt_of_lt_of_le (h.low r hr a ha) hm, h.bit r hr a ha, h.len r hr a ha⟩⟩
end Ver
namespace Ver
open PySem PySem.Spec PyProof.Rows L2 Evl
section
variable {P : Program} {w : World} {K : PySem.W.Frag} {mg : Str → Option Value} {base : Heap} {C_Machine : Addr}
theorem Dg.drop {r : List Int} (h : Dg r) (k : Nat) : Dg (r.drop k) := fun i hi => by
  have e : at0 (r.drop k) i = at0 r (k + i) := by
    unfold at0
    rw [List.getD_eq_getElem?_getD, List.getElem?_drop, ← List.getD_eq_getElem?_getD]
  rw [e]
  exact h.at _
theorem s_asgQ {σ : L2.St} {H : Hp} {D : Ends} {sp : Sp} {E : XK} {ta : TA} {vs dvs : List V} {i : Nat} (h : EvA ta σ H vs) (k : ∀ H1, Ex H H1 → sp (vs ++ dvs) H1 (fun x H2 => D.nx (σ.set i (some x)) H2) E) : tAsg (tCall sp dvs E ta) (gName i) D σ H := h H (Ex.refl H) _ k
/-! ### _law_some_rules -/
def ten (k : Nat) : List Nat := (List.replicate k [49, 48]).flatten
theorem ten_bw : ∀ k, Bw (ten k)
  | 0 => Bw.nil
  | k + 1 => by
    unfold ten
    rw [List.replicate_succ, List.flatten_cons]
    exact Bw.app (fun c hc => by simp at hc; omega) (ten_bw k)
theorem ten_len : ∀ k, (ten k).length = 2 * k
  | 0 => rfl
  | k + 1 => by
    have := ten_len k
    unfold ten at this ⊢
    rw [List.replicate_succ, List.flatten_cons, List.length_append, this]
    show 2 + 2 * k = _
    omega
def spSome (K : PySem.W.Frag) : Sp := fun vs H Q _ => ∃ (a : Addr) (r : List Int) (n : Nat), vs = [.int (n : Int), .ref a] ∧ 1 ≤ n ∧ n ≤ 6 ∧ SqL K H a (r.map V.int) ∧ r.length = 63 ∧ (0 ≤ at0 r 1 ∧ at0 r 1 < 12) ∧ Dg (r.drop 3) ∧ ∀ (m : Nat) (R : Tbl), 1 ≤ m → m ≤ 60 → R.length = m → RG n m R → RetTab H Q R
theorem has_some (F : At K mg "_law_some_rules" s__law_some_rules) (T : Top K mg C_Machine) (h1 : Has P w K mg base "_law_ring_rules" s__law_ring_rules ["size", "row", "many"] 2 (spRing K)) (h2 : Has P w K mg base "_law_grouped_rules" s__law_grouped_rules ["size", "group"] 3 spGr)
    (h3 : Has P w K mg base "_law_holding_rules" s__law_holding_rules ["size", "row"] 2 (spHold K)) (h4 : Has P w K mg base "_law_free_rules" s__law_free_rules ["size", "row", "many"] 1 (spFree K)) : Has P w K mg base "_law_some_rules" s__law_some_rules ["size", "row"] 4 (spSome K) := by
  obtain ⟨f, fd, F, m⟩ := F.ex
  obtain ⟨f1, fd1, _, G__law_ring_rules, b__law_ring_rules, m__law_ring_rules, k__law_ring_rules⟩ := h1
  obtain ⟨f2, fd2, _, G__law_grouped_rules, b__law_grouped_rules, m__law_grouped_rules, k__law_grouped_rules⟩ := h2
  obtain ⟨f3, fd3, _, G__law_holding_rules, b__law_holding_rules, m__law_holding_rules, k__law_holding_rules⟩ := h3
  obtain ⟨f4, fd4, _, G__law_free_rules, b__law_free_rules, m__law_free_rules, k__law_free_rules⟩ := h4
  refine ⟨f, fd, F, F.ok S__law_some_rules (fun vs H Q E h => ?_) (fun cdv A outer s H vs Q E hr h => ?_), F.binds fun _ _ _ _ _ _ us hl => match us, hl with | [_, _], _ => rfl, m, F.kp⟩
  · obtain ⟨a, r, n, rfl, _⟩ := h
    rfl
  obtain ⟨a, r, n, rfl, n1, n6, hR, hl, hb1, hD, q⟩ := h
  refine ⟨_, (pss_cons
    (ps_set (i := 2) S__law_some_rules.nd rfl (Or.inl rfl) (pe_slice sl_list (pv 1) (po_some pe_int) po_none))
    (pss_cut
    (ps_if (pt_cmpR op_lt (pe_ix (r := rIxL K) ix_list (pv 1) pe_int (fun _ _ => rfl)) pe_int (nomark _)) (pss_one
    (ps_set (i := 3) S__law_some_rules.nd rfl (Or.inl rfl) (pe_call G__law_ring_rules (hr.mono (by decide)) rfl m__law_ring_rules k__law_ring_rules b__law_ring_rules .nil pass0 (pa_cons (pv 0) (pa_cons (pv 2) (pa_cons (pe_op op_add pe_int (pe_ix (r := rIxL K) ix_list (pv 1) pe_int (fun _ _ => rfl))) pa_nil)))))) (pss_one
    (ps_if (pt_cmpR op_eq (pe_ix (r := rIxL K) ix_list (pv 1) pe_int (fun _ _ => rfl)) pe_int (nomark _)) (pss_one
    (ps_set (i := 3) S__law_some_rules.nd rfl (Or.inl rfl) (pe_call G__law_grouped_rules (hr.mono (by decide)) rfl m__law_grouped_rules k__law_grouped_rules b__law_grouped_rules .nil pass0 (pa_cons (pv 0) (pa_cons (pe_op op_add pe_int (pe_op op_mod (pe_callTy call_int1 rfl T.z_int (by decide +kernel) (pa_cons (pe_ix (r := rIxL K) ix_list (pv 1) pe_int (fun _ _ => rfl)) pa_nil)) (pe_ix (r := rIxL K) ix_list (pe_lst (pa_cons pe_int (pa_cons pe_int (pa_cons pe_int (pa_cons pe_int (pa_cons pe_int (pa_cons pe_int pa_nil))))))) (pe_op op_sub (pv 0) pe_int) (fun _ _ => rfl)))) pa_nil))))) (pss_one
    (ps_if (pt_cmpR op_eq (pe_ix (r := rIxL K) ix_list (pv 1) pe_int (fun _ _ => rfl)) pe_int (nomark _)) (pss_one
    (ps_set (i := 3) S__law_some_rules.nd rfl (Or.inl rfl) (pe_call G__law_holding_rules (hr.mono (by decide)) rfl m__law_holding_rules k__law_holding_rules b__law_holding_rules .nil pass0 (pa_cons (pv 0) (pa_cons (pv 2) pa_nil))))) (pss_one
    (ps_set (i := 3) S__law_some_rules.nd rfl (Or.inl rfl) (pe_call G__law_free_rules (hr.mono (by decide)) rfl m__law_free_rules k__law_free_rules b__law_free_rules .nil pass0 (pa_cons (pv 0) (pa_cons (pv 2) (pa_cons (pe_op op_add pe_int (pe_op op_mod (pe_callTy call_int1 rfl T.z_int (by decide +kernel) (pa_cons (pe_ix (r := rIxL K) ix_list (pv 1) pe_int (fun _ _ => rfl)) pa_nil)) pe_int)) pa_nil)))))))))))
    (pss_cons
    (ps_if (pt_cmpR op_gt (pe_ix (r := rIxL K) ix_list (pv 1) pe_int (fun _ _ => rfl)) pe_int (nomark _)) (pss_one
    (ps_ret (pv 3))) pss_nil)
    (pss_cons
    (ps_set (i := 4) S__law_some_rules.nd rfl (Or.inl rfl) (pe_ix (r := rIxT K) ix_tup (pv 3) (pe_un un_neg pe_int) (fun _ _ => rfl)))
    (pss_one
    (ps_ret (pe_op op_catA (pe_slice sl_tup (pv 3) po_none (po_some (pe_un un_neg pe_int))) (pe_tup (pa_cons (pe_op op_catA (pe_slice sl_tup (pv 4) po_none (po_some (pe_un un_neg pe_int))) (pe_tup (pa_cons (pe_tup (pa_cons (pe_ix (r := rIxT K) ix_tup (pe_ix (r := rIxT K) ix_tup (pv 4) (pe_un un_neg pe_int) (fun _ _ => rfl)) pe_int (fun _ _ => rfl)) (pa_cons (pe_op op_mulS pe_str (pe_op op_mod (pe_callTy call_int1 rfl T.z_int (by decide +kernel) (pa_cons (pe_ix (r := rIxL K) ix_list (pv 2) pe_int (fun _ _ => rfl)) pa_nil)) pe_int)) pa_nil))) pa_nil))) pa_nil))))))))), ?_⟩
  refine q_asgL (xs := (r.drop 3).map V.int) (el_from (n := 3) rfl (ev_var rfl) hR) fun p H1 hp e1 h1 => ?_
  have hdl : (r.drop 3).length = 60 := by rw [List.length_drop]; omega
  have rw' : ∀ {σ : L2.St} {H' : Hp} {i : Nat} {z : Int} {te : TE}, Ex H H' → i < 63 → z = (i : Int) → σ[1]? = some (some (.ref a)) → Ev te σ H' (.int z) → Ev (tOp (rIxL K) (tVar 1) te) σ H' (.int (at0 r i)) := fun e hi hz hs h => ev_atI (ex_l e hR) (by omega) hz (ev_var hs) h
  refine q_cut (M := fun σ' H' => ∃ (v : V) (R : Tbl) (mm : Nat), σ' = [some (.int (n : Int)), some (.ref a), some (.ref p), some v, none] ∧ Ex H1 H' ∧ TabP R H' v ∧ 1 ≤ mm ∧ mm ≤ 60 ∧ R.length = mm ∧ RG n mm R) ?_ ?_
  rotate_left
  · rintro σ' H' ⟨v, R, mm, rfl, e2, hv, m1, m60, hRl, hRG⟩
    refine q_when (et_gt (rw' (i := 2) (e1.trans e2) (by decide) rfl rfl ev_c) ev_c) (fun hb H2 e3 => ?_) (fun hb H2 e3 => ?_)
    · exact s_ret (ev_var rfl) fun H3 e4 => q mm R m1 m60 hRl hRG v H3 (((e1.trans e2).trans e3).trans e4) (tab_sol.mono (e3.trans e4) hv)
    · obtain ⟨t, xs, rfl, ht, hL⟩ := tab_sol.mono e3 hv
      obtain ⟨lr, x, hlr, hat, lp, ys, rfl, hlp, hL2⟩ := hL.last (by omega)
      have hlm := List.mem_of_getElem? hlr
      obtain ⟨hln, hlg⟩ := hRG.mem hlm
      refine q_asg (v := .ref lp) (ev_op (ev_var rfl) (ev_un ev_c ru_neg) (rv_ixT (st_of ht) hat)) fun H3 e4 => ?_
      have hlp4 := e4 _ _ hlp
      have hL24 := hL2.mono pair_sol e4
      obtain ⟨la, y, hla, hat2, pr, rfl, hpr⟩ := hL24.last (by omega)
      have hlam := List.mem_of_getElem? hla
      have e14 := ((e1.trans e2).trans e3).trans e4
      obtain ⟨k, hk, ek⟩ := int_mod (x := at0 (r.drop 3) 1) (n := 21) (by decide)
      have h1' := e4 _ _ (e3 _ _ (e2 _ _ h1))
      refine s_retP (ep_catA (P := LineP) (as := R.take (R.length - 1)) (bs := [lr.take (lr.length - 1) ++ [(la.1, ten k)]]) line_sol (by rw [List.length_take]; show _ + 1 ≤ 100000; omega) (ep_init line_sol (by omega) (ev_var rfl) (e4 _ _ ht) (hL.mono line_sol e4)) (fun H5 e5 => ep_tup1 line_sol (ep_catA (P := PairP) pair_sol (by rw [List.length_take]; show _ + 1 ≤ 100000; omega) (ep_init pair_sol (by omega) (ev_var rfl) (e5 _ _ hlp4) (hL24.mono pair_sol e5)) fun H6 e6 => ep_tup1 pair_sol (ep_pair (ev_op (ev_op (ev_var rfl) (ev_un ev_c ru_neg) (rv_ixT (st_of (e6 _ _ (e5 _ _ hlp4))) hat2)) ev_c (rv_ixT (st_of (e6 _ _ (e5 _ _ hpr))) (atI_nat (j := 0) rfl))) (ev_mulS (l := [49, 48]) (n := k) (by omega) (by show 2 * k ≤ 100000; omega) (ev_is ev_c (by rw [show Str.ofString "10" = SX.S [49, 48] from by decide +kernel])) (ev_is (ev_mod (by decide) (ev_int (ev_atI (sq_of (e6 _ _ (e5 _ _ h1'))) (i := 1) (by omega) rfl (ev_var rfl) ev_c)) ev_c) (by rw [show at0 (r.drop 3) 1 % 21 = (k : Int) from ek]))))))) fun v2 H5 e5 hv2 => ?_
      refine q mm _ m1 m60 ?_ (.of fun r' hr' => ?_) v2 H5 (e14.trans e5) hv2
      · rw [List.length_append, List.length_take]
        show _ + 1 = mm
        omega
      · rcases List.mem_append.mp hr' with h | h
        · exact hRG.mem (List.mem_of_mem_take h)
        · rw [List.mem_singleton.mp h]
          refine ⟨by rw [List.length_append, List.length_take]; show _ + 1 = n; omega, fun a ha => ?_⟩
          rcases List.mem_append.mp ha with h | h
          · exact hlg a (List.mem_of_mem_take h)
          · rw [List.mem_singleton.mp h]
            exact ⟨(hlg la hlam).1, ten_bw k, by show (ten k).length ≤ 100; rw [ten_len]; omega⟩
  refine s_if (et_lt (rw' (i := 0) e1 (by decide) rfl rfl ev_c) ev_c) (fun hb H2 e2 => ?_) (fun hb H2 e2 => ?_)
  · obtain ⟨mm, hm⟩ : ∃ mm : Nat, 1 + at0 r 1 = (mm : Int) := ⟨(1 + at0 r 1).toNat, by omega⟩
    exact s_asgQ (dvs := []) (ea_cons (ev_var rfl) (ea_cons (ev_var rfl) (ea_cons (ev_is (ev_add ev_c (rw' (i := 1) (e1.trans e2) (by decide) rfl rfl ev_c)) (by rw [hm])) ea_nil))) fun H3 e3 => ⟨p, r.drop 3, n, mm, rfl, n1, n6, by omega, by omega, sq_of (e3 _ _ (e2 _ _ h1)), by omega, hD, fun R h1 h2 _ v H4 e4 hv => ⟨v, R, mm, rfl, ((e2.trans e3).trans e4), hv, (by omega), (by omega), h1, h2⟩⟩
  · refine s_if (et_eqI (rw' (i := 0) (e1.trans e2) (by decide) rfl rfl ev_c) ev_c) (fun hb H3 e3 => ?_) (fun hb H3 e3 => ?_)
    · obtain ⟨k, hk1, hk2, hk3⟩ : ∃ k : Nat, at0 [12, 3, 2, 2, 2, 2] (n - 1) = (k : Int) ∧ 1 ≤ k ∧ ∀ g, g ≤ k → okNG n g = true ∧ k ≤ 12 := by
        have : ∀ n, n < 7 → 1 ≤ n → 1 ≤ at0 [12, 3, 2, 2, 2, 2] (n - 1) ∧ ∀ g : Nat, g < 13 → (g : Int) ≤ at0 [12, 3, 2, 2, 2, 2] (n - 1) → okNG n g = true ∧ at0 [12, 3, 2, 2, 2, 2] (n - 1) ≤ 12 := by decide +kernel
        obtain ⟨h1, h2⟩ := this n (by omega) n1
        have h12 := (h2 0 (by decide) (by omega)).2
        exact ⟨(at0 [12, 3, 2, 2, 2, 2] (n - 1)).toNat, by omega, by omega, fun g hg => ⟨(h2 g (by omega) (by omega)).1, by omega⟩⟩
      obtain ⟨x, hx, ex⟩ := int_mod (x := at0 r 1) (n := k) (by omega)
      have hn1 : (n : Int) - 1 = ((n - 1 : Nat) : Int) := by omega
      exact s_asgQ (dvs := []) (ea_cons (ev_var rfl) (ea_cons (ev_is (ev_add ev_c (ev_mod (j := (k : Int)) (by omega) (ev_int (rw' (i := 1) ((e1.trans e2).trans e3) (by decide) rfl rfl ev_c)) (ev_is (ev_atN (ns := [12, 3, 2, 2, 2, 2]) (i := n - 1) (z := (n : Int) - 1) (el_lst (ea_cons ev_c (ea_cons ev_c (ea_cons ev_c (ea_cons ev_c (ea_cons ev_c (ea_cons ev_c ea_nil)))))) (by show 6 ≤ 100000; decide)) (by show n - 1 < 6; omega) hn1 fun H4 e4 => ev_sub (ev_var rfl) ev_c) (by rw [hk1])))) (by rw [ex, show (1 : Int) + (x : Int) = ((1 + x : Nat) : Int) by omega])) ea_nil)) fun H4 e4 => ⟨n, 1 + x, rfl, n1, n6, by omega, by have := (hk3 1 hk2).2; omega, (hk3 (1 + x) (by omega)).1, fun mm R a1 a2 a3 a4 v H5 e5 hv => ⟨v, R, mm, rfl, (((e2.trans e3).trans e4).trans e5), hv, a1, a2, a3, a4⟩⟩
    · refine s_if (et_eqI (rw' (i := 0) ((e1.trans e2).trans e3) (by decide) rfl rfl ev_c) ev_c) (fun hb H4 e4 => ?_) (fun hb H4 e4 => ?_)
      · exact s_asgQ (dvs := []) (ea_cons (ev_var rfl) (ea_cons (ev_var rfl) ea_nil)) fun H5 e5 => ⟨p, r.drop 3, n, rfl, n1, n6, sq_of (((((e2.trans e3).trans e4).trans e5)) _ _ h1), by omega, fun R a1 a2 v H6 e6 hv => ⟨v, R, n + 1, rfl, ((((e2.trans e3).trans e4).trans e5).trans e6), hv, (by omega), (by omega), a1, a2⟩⟩
      · obtain ⟨x, hx, ex⟩ := int_mod (x := at0 r 1) (n := 4) (by decide)
        exact s_asgQ (dvs := []) (ea_cons (ev_var rfl) (ea_cons (ev_var rfl) (ea_cons (ev_is (ev_add ev_c (ev_mod (j := 4) (by decide) (ev_int (rw' (i := 1) (((e1.trans e2).trans e3).trans e4) (by decide) rfl rfl ev_c)) ev_c)) (by rw [show at0 r 1 % 4 = (x : Int) from ex, show (1 : Int) + (x : Int) = ((1 + x : Nat) : Int) by omega])) ea_nil))) fun H5 e5 => ⟨p, r.drop 3, n, 1 + x, rfl, n1, n6, by omega, by omega, sq_of ((((e2.trans e3).trans e4).trans e5) _ _ h1), by omega, fun R a1 a2 v H6 e6 hv => ⟨v, R, 1 + x, rfl, ((((e2.trans e3).trans e4).trans e5).trans e6), hv, (by omega), (by omega), a1, a2⟩⟩
end
end Ver
namespace Ver
open PySem PySem.Spec PyProof.Rows L2 Evl
def flipW (b : List Nat) : List Nat := b.map fun c => 97 - c
theorem flip_bw {b : List Nat} (h : Bw b) : Bw (flipW b) := fun c hc => by
  obtain ⟨d, hd, rfl⟩ := List.mem_map.mp hc
  rcases h d hd with rfl | rfl
  · exact .inr rfl
  · exact .inl rfl
theorem flip_len {b : List Nat} : (flipW b).length = b.length := by
  unfold flipW
  rw [List.length_map]
def GoodP (n : Nat) : HV := fun H v => ∃ (m : Nat) (R : Tbl), 1 ≤ m ∧ m ≤ 60 ∧ R.length = m ∧ RG n m R ∧ TabP R H v
theorem good_mo {n : Nat} : Mo (GoodP n) := fun _ _ _ e ⟨m, R, h1, h2, h3, h4, h5⟩ => ⟨m, R, h1, h2, h3, h4, tab_sol.mono e h5⟩
theorem el_revL {K : PySem.W.Frag} {σ : L2.St} {H : Hp} {te : TE} {xs : List V} (h : EvL te σ H xs) : EvL (tRevL K te) σ H xs.reverse := fun H1 e Q q =>
  h H1 e _ fun p H2 hp e2 h2 => ⟨p, xs, rfl, sq_of h2, fun l hl => q l _ (fresh_back e2 hl) (e2.trans (Ex.new hl)) upd_same⟩
section
variable {P : Program} {w : World} {K : PySem.W.Frag} {mg : Str → Option Value} {base : Heap} {C_Machine : Addr}
theorem ev_intS {σ : L2.St} {H : Hp} {te : TE} {c : Nat} (hc : c = 48 ∨ c = 49) (h : Ev te σ H (tx [c])) : Ev (tCB (fun xs H Q => ∃ a n, xs = [.str a] ∧ PySem.intText? a = some n ∧ a.length ≤ 640 ∧ Q (.int n) H) (tCons te tNil)) σ H (.int ((c - 48 : Nat) : Int)) := fun H1 e Q q =>
  h H1 e _ fun H2 e2 => by
    rcases hc with rfl | rfl
    · exact ⟨SX.S [48], 0, rfl, by decide +kernel, by decide, q H2 e2⟩
    · exact ⟨SX.S [49], 1, rfl, by decide +kernel, by decide, q H2 e2⟩
/-- a list of two, its second by a call with a list -/
theorem dg_take {r : List Int} (h : Dg r) (k : Nat) : Dg (r.take k) := fun i hi => by
  rw [List.length_take] at hi
  have e : at0 (r.take k) i = at0 r i := by
    unfold at0
    rw [List.getD_eq_getElem?_getD, List.getElem?_take, if_pos (by omega), ← List.getD_eq_getElem?_getD]
  rw [e]
  exact h.at _
theorem dg_rev {r : List Int} (h : Dg r) : Dg r.reverse := fun i hi => by
  rw [List.length_reverse] at hi
  have e : at0 r.reverse i = at0 r (r.length - 1 - i) := by
    unfold at0
    rw [List.getD_eq_getElem?_getD, List.getElem?_reverse hi, ← List.getD_eq_getElem?_getD]
  rw [e]
  exact h.at _
theorem ep_callL {sp : Sp} {E : XK} {σ : L2.St} {H : Hp} {ta tl : TE} {y : V} {xs : List V} {P : HV} (ha : Ev ta σ H y) (hl : ∀ H1, Ex H H1 → EvL tl σ H1 xs) (hs : ∀ p H1, Ex H H1 → H1 p = some (.lst xs) → ∀ Q : VK, (∀ v H2, Ex H1 H2 → P H2 v → Q v H2) → sp [y, .ref p] H1 Q E) : EvP (tCall sp [] E (tCons ta (tCons tl tNil))) σ H P := fun H1 e Q q =>
  ha H1 e _ fun H2 e2 => hl H2 (e.trans e2) H2 (Ex.refl H2) _ fun p H3 hp e3 h3 => hs p H3 ((e.trans e2).trans e3) h3 Q fun v H4 e4 hv => q v H4 ((e2.trans e3).trans e4) hv
/-! ### _law_two_rules -/
def spTwo (K : PySem.W.Frag) : Sp := fun vs H Q _ => ∃ (a : Addr) (r : List Int) (n : Nat), vs = [.int (n : Int), .ref a] ∧ 1 ≤ n ∧ n ≤ 6 ∧ SqL K H a (r.map V.int) ∧ r.length = 70 ∧ Dg r ∧ at0 r 4 < 2 ∧ at0 r 5 < 2 ∧ at0 r 6 < 2 ∧ ∀ (m1 m2 : Nat) (R1 R2 : Tbl), 1 ≤ m1 → m1 ≤ 60 → R1.length = m1 → RG n m1 R1 → 1 ≤ m2 → m2 ≤ 60 → R2.length = m2 → RG n m2 R2 → RetTwo H Q R1 R2
theorem has_two (F : At K mg "_law_two_rules" s__law_two_rules) (T : Top K mg C_Machine) (h1 : Has P w K mg base "_law_balanced_rules" s__law_balanced_rules ["size", "row"] 2 (spBal K)) (h2 : Has P w K mg base "_law_burst_rules" s__law_burst_rules ["size", "many", "bits", "at"] 2 spBurst)
    (h3 : Has P w K mg base "_law_holding_rules" s__law_holding_rules ["size", "row"] 2 (spHold K)) (h4 : Has P w K mg base "_law_code" s__law_code ["many", "row"] 1 (spCode K)) (h5 : Has P w K mg base "_law_some_rules" s__law_some_rules ["size", "row"] 4 (spSome K)) : Has P w K mg base "_law_two_rules" s__law_two_rules ["size", "row"] 5 (spTwo K) := by
  obtain ⟨f, fd, F, m⟩ := F.ex
  obtain ⟨f1, fd1, _, G__law_balanced_rules, b__law_balanced_rules, m__law_balanced_rules, k__law_balanced_rules⟩ := h1
  obtain ⟨f2, fd2, _, G__law_burst_rules, b__law_burst_rules, m__law_burst_rules, k__law_burst_rules⟩ := h2
  obtain ⟨f3, fd3, _, G__law_holding_rules, b__law_holding_rules, m__law_holding_rules, k__law_holding_rules⟩ := h3
  obtain ⟨f4, fd4, _, G__law_code, b__law_code, m__law_code, k__law_code⟩ := h4
  obtain ⟨f5, fd5, _, G__law_some_rules, b__law_some_rules, m__law_some_rules, k__law_some_rules⟩ := h5
  refine ⟨f, fd, F, F.ok S__law_two_rules (fun vs H Q E h => ?_) (fun cdv A outer s H vs Q E hr h => ?_), F.binds fun _ _ _ _ _ _ us hl => match us, hl with | [_, _], _ => rfl, m, F.kp⟩
  · obtain ⟨a, r, n, rfl, _⟩ := h
    rfl
  obtain ⟨a, r, n, rfl, n1, n6, hR, hl, hD, b4, b5, b6, q⟩ := h
  refine ⟨_, (pss_cons
    (ps_set (i := 2) S__law_two_rules.nd rfl (Or.inl rfl) (pe_ix (r := rIxL K) ix_list (pv 1) pe_int (fun _ _ => rfl)))
    (pss_cons
    (ps_set (i := 3) S__law_two_rules.nd rfl (Or.inl rfl) (pe_slice sl_list (pv 1) (po_some pe_int) po_none))
    (pss_cons
    (ps_if (pt_cmpR op_lt (pv 2) pe_int (nomark _)) (pss_one
    (ps_ret (pe_call G__law_balanced_rules (hr.mono (by decide)) rfl m__law_balanced_rules k__law_balanced_rules b__law_balanced_rules .nil pass0 (pa_cons (pv 0) (pa_cons (pv 3) pa_nil))))) pss_nil)
    (pss_cons
    (ps_if (pt_cmpR op_lt (pv 2) pe_int (nomark _)) (pss_cons
    (ps_set (i := 4) S__law_two_rules.nd rfl (Or.inl rfl) (pe_op op_add pe_int (pe_ix (r := rIxL K) ix_list (pv 1) pe_int (fun _ _ => rfl))))
    (pss_cons
    (ps_set (i := 5) S__law_two_rules.nd rfl (Or.inl rfl) (pe_ifExp (pt_cmpR op_lt (pv 0) pe_int (nomark _)) pe_int pe_int))
    (pss_cons
    (ps_set (i := 6) S__law_two_rules.nd rfl (Or.inl rfl) (pe_op op_add pe_int (pe_op op_mod (pe_callTy call_int1 rfl T.z_int (by decide +kernel) (pa_cons (pe_ix (r := rIxL K) ix_list (pv 1) pe_int (fun _ _ => rfl)) pa_nil)) (pv 5))))
    (pss_cons
    (ps_set (i := 7) S__law_two_rules.nd rfl (Or.inl rfl) (pe_op op_add pe_int (pe_op op_mod (pe_callTy call_int1 rfl T.z_int (by decide +kernel) (pa_cons (pe_ix (r := rIxL K) ix_list (pv 1) pe_int (fun _ _ => rfl)) pa_nil)) (pv 5))))
    (pss_cons
    (ps_set (i := 8) S__law_two_rules.nd rfl (Or.inl rfl) (pe_call G__law_burst_rules (hr.mono (by decide)) rfl m__law_burst_rules k__law_burst_rules b__law_burst_rules .nil pass0 (pa_cons (pv 0) (pa_cons (pv 6) (pa_cons (pe_op op_add (pe_op op_mul (pv 4) (pv 6)) (pe_ix (r := rIxL K) ix_list (pv 1) pe_int (fun _ _ => rfl))) (pa_cons (pe_op op_sub (pv 6) pe_int) pa_nil))))))
    (pss_one
    (ps_ret (pe_lst (pa_cons (pv 8) (pa_cons (pe_call G__law_burst_rules (hr.mono (by decide)) rfl m__law_burst_rules k__law_burst_rules b__law_burst_rules .nil pass0 (pa_cons (pv 0) (pa_cons (pv 7) (pa_cons (pe_op op_add (pe_op op_mul (pv 4) (pv 7)) (pe_ix (r := rIxL K) ix_list (pv 1) pe_int (fun _ _ => rfl))) (pa_cons (pe_callB (call_min2 rfl) rfl T.z_min (by decide +kernel) (pa_cons (pe_op op_sub (pv 7) pe_int) (pa_cons (pe_ix (r := rIxL K) ix_list (pv 1) pe_int (fun _ _ => rfl)) pa_nil))) pa_nil))))) pa_nil)))))))))) pss_nil)
    (pss_cons
    (ps_if (pt_cmpR op_eq (pv 2) pe_int (nomark _)) (pss_cons
    (ps_set (i := 9) S__law_two_rules.nd rfl (Or.inl rfl) (pe_call G__law_code (hr.mono (by decide)) rfl m__law_code k__law_code b__law_code .nil pass0 (pa_cons (pv 0) (pa_cons (pe_slice sl_list (pv 3) po_none (po_some pe_int)) pa_nil))))
    (pss_one
    (ps_ret (pe_lst (pa_cons (pe_tup (pa_cons (pe_callTy call_tuple_of rfl T.z_tuple (by decide +kernel) (pa_cons (pe_lc (own := [("word", 13)]) (g := gName 13) (tt := tYes) rfl S__law_two_rules.nd (pi_list (pv 9)) (blkOk_by (N := N__law_two_rules) (sc := defScope s__law_two_rules) (by decide +kernel)) (fun _ _ _ _ _ => pg_name (i := 13) S__law_two_rules.nd rfl (Or.inl rfl)) (fun _ _ _ _ _ => pts_nil) (fun _ _ _ _ _ => (pe_tup (pa_cons pe_int (pa_cons (pv 13) pa_nil))))) pa_nil)) pa_nil)) (pa_cons (pe_call G__law_holding_rules (hr.mono (by decide)) rfl m__law_holding_rules k__law_holding_rules b__law_holding_rules .nil pass0 (pa_cons (pv 0) (pa_cons (pv 3) pa_nil))) pa_nil)))))) pss_nil)
    (pss_cons
    (ps_set (i := 10) S__law_two_rules.nd rfl (Or.inl rfl) (pe_call G__law_some_rules (hr.mono (by decide)) rfl m__law_some_rules k__law_some_rules b__law_some_rules .nil pass0 (pa_cons (pv 0) (pa_cons (pe_op op_cat (pe_lst (pa_cons (pe_op op_mod (pe_callTy call_int1 rfl T.z_int (by decide +kernel) (pa_cons (pe_ix (r := rIxL K) ix_list (pv 1) pe_int (fun _ _ => rfl)) pa_nil)) pe_int) (pa_cons (pe_op op_mod (pe_callTy call_int1 rfl T.z_int (by decide +kernel) (pa_cons (pe_ix (r := rIxL K) ix_list (pv 1) pe_int (fun _ _ => rfl)) pa_nil)) pe_int) (pa_cons (pe_ix (r := rIxL K) ix_list (pv 1) pe_int (fun _ _ => rfl)) pa_nil)))) (pe_slice sl_list (pv 3) po_none (po_some pe_int))) pa_nil))))
    (pss_cons
    (ps_if (pt_cmpR op_eq (pv 2) pe_int (nomark _)) (pss_cons
    (ps_set (i := 11) S__law_two_rules.nd rfl (Or.inl rfl) (pe_lst pa_nil))
    (pss_cons
    (ps_for PassesOwn.never rfl (pi_tup (pv 10)) (pg_name (i := 12) S__law_two_rules.nd rfl (Or.inl rfl)) (pss_one
    (ps_expr (pe_bm PySem.F.plainAttrs_list PySem.F.slot_list_append PySem.F.type_list_append mt_append (pv 11) (pa_cons (pe_callTy call_tuple_of rfl T.z_tuple (by decide +kernel) (pa_cons (pe_lc (own := [("rule", 14)]) (g := gName 14) (tt := tYes) rfl S__law_two_rules.nd (pi_tup (pv 12)) (blkOk_by (N := N__law_two_rules) (sc := defScope s__law_two_rules) (by decide +kernel)) (fun _ _ _ _ _ => pg_name (i := 14) S__law_two_rules.nd rfl (Or.inl rfl)) (fun _ _ _ _ _ => pts_nil) (fun _ _ _ _ _ => (pe_tup (pa_cons (pe_ix (r := rIxT K) ix_tup (pv 14) pe_int (fun _ _ => rfl)) (pa_cons (show PE _ _ (tM1 (rJoin K) _ _) from (pe_join pe_str (pe_lc (own := [("bit", 15)]) (g := gName 15) (tt := tYes) rfl S__law_two_rules.nd (pi_str (pe_ix (r := rIxT K) ix_tup (pv 14) pe_int (fun _ _ => rfl))) (blkOk_by (N := N__law_two_rules) (sc := { kind := .function, names := [(Str.ofString ".0", .local), (Str.ofString "rule", .local)], isGenerator := false, isCoroutine := false }) (by decide +kernel)) (fun _ _ _ _ _ => pg_name (i := 15) S__law_two_rules.nd rfl (Or.inl rfl)) (fun _ _ _ _ _ => pts_nil) (fun _ _ _ _ _ => (pe_ix ix_str pe_str (pe_callTy call_int_str rfl T.z_int (by decide +kernel) (pa_cons (pv 15) pa_nil)) (fun _ _ => rfl)))))) pa_nil))))) pa_nil)) pa_nil)))))
    (pss_one
    (ps_ret (pe_lst (pa_cons (pv 10) (pa_cons (pe_callTy call_tuple_of rfl T.z_tuple (by decide +kernel) (pa_cons (pv 11) pa_nil)) pa_nil))))))) pss_nil)
    (pss_one
    (ps_ret (pe_lst (pa_cons (pv 10) (pa_cons (pe_call G__law_some_rules (hr.mono (by decide)) rfl m__law_some_rules k__law_some_rules b__law_some_rules .nil pass0 (pa_cons (pv 0) (pa_cons (pe_op op_cat (pe_lst (pa_cons (pe_op op_mod (pe_callTy call_int1 rfl T.z_int (by decide +kernel) (pa_cons (pe_ix (r := rIxL K) ix_list (pv 1) pe_int (fun _ _ => rfl)) pa_nil)) pe_int) (pa_cons (pe_op op_mod (pe_callTy call_int1 rfl T.z_int (by decide +kernel) (pa_cons (pe_ix (r := rIxL K) ix_list (pv 3) pe_int (fun _ _ => rfl)) pa_nil)) pe_int) (pa_cons (pe_op op_fdivW (pe_callTy call_int1 rfl T.z_int (by decide +kernel) (pa_cons (pe_ix (r := rIxL K) ix_list (pv 1) pe_int (fun _ _ => rfl)) pa_nil)) pe_int) pa_nil)))) (pe_revL (pe_slice sl_list (pv 3) po_none (po_some pe_int)))) pa_nil))) pa_nil)))))))))))), ?_⟩
  have rw' : ∀ {σ : L2.St} {H' : Hp} {i : Nat} {z : Int} {te : TE}, Ex H H' → i < 70 → z = (i : Int) → σ[1]? = some (some (.ref a)) → Ev te σ H' (.int z) → Ev (tOp (rIxL K) (tVar 1) te) σ H' (.int (at0 r i)) := fun e hi hz hs h => ev_atI (ex_l e hR) (by omega) hz (ev_var hs) h
  refine q_asg (v := .int (at0 r 0)) (rw' (Ex.refl H) (by decide) rfl rfl ev_c) fun H1 e1 => ?_
  refine q_asgL (xs := (r.drop 8).map V.int) (el_from (n := 8) rfl (ev_var rfl) (ex_l e1 hR)) fun p H2 hp e2 h2 => ?_
  have hdl : (r.drop 8).length = 62 := by rw [List.length_drop]; omega
  have hDd := hD.drop 8
  have e12 := e1.trans e2
  refine q_when (et_lt (ev_var rfl) ev_c) (fun hb H3 e3 => ?_) (fun hb H3 e3 => ?_)
  · exact s_retCall (dvs := []) (ea_cons (ev_var rfl) (ea_cons (ev_var rfl) ea_nil)) fun H4 e4 => ⟨p, r.drop 8, n, rfl, n1, n6, sq_of ((e3.trans e4) _ _ h2), by omega, hDd, fun mm R1 R2 m1 m6 a1 a2 a3 a4 p2 x y H5 hp2 e5 h5 hx hy => q mm mm R1 R2 m1 (by omega) a1 a2 m1 (by omega) a3 a4 p2 x y H5 (fresh_back ((e12.trans e3).trans e4) hp2) (((e12.trans e3).trans e4).trans e5) h5 hx hy⟩
  refine q_when (et_lt (ev_var rfl) ev_c) (fun hb2 H4 e4 => ?_) (fun hb2 H4 e4 => ?_)
  · have e14 := (e12.trans e3).trans e4
    have d4 := hD.at 4
    have d5 := hD.at 5
    have d6 := hD.at 6
    obtain ⟨wi, hwi, w1, w2⟩ : ∃ wi : Nat, 1 + at0 r 4 = (wi : Int) ∧ 1 ≤ wi ∧ wi ≤ 2 := ⟨(1 + at0 r 4).toNat, by omega, by omega, by omega⟩
    refine q_asg (v := .int (wi : Int)) (ev_is (ev_add ev_c (rw' (i := 4) e14 (by decide) rfl rfl ev_c)) (by rw [hwi])) fun H5 e5 => ?_
    let mo : Nat := if (n : Int) < 3 then 19 else 10
    have hmo : 1 ≤ mo ∧ mo ≤ 19 := by
      show 1 ≤ (if (n : Int) < 3 then 19 else 10) ∧ (if (n : Int) < 3 then 19 else 10) ≤ 19
      split <;> omega
    refine q_asg (v := .int (mo : Int)) (ev_if (et_lt (ev_var rfl) ev_c) (fun hb => ev_is ev_c (by
      show V.int 19 = V.int ((if (n : Int) < 3 then 19 else 10 : Nat) : Int)
      rw [if_pos (of_decide_eq_true hb)]
      rfl)) fun hb => ev_is ev_c (by
      show V.int 10 = V.int ((if (n : Int) < 3 then 19 else 10 : Nat) : Int)
      rw [if_neg (of_decide_eq_false hb)]
      rfl)) fun H6 e6 => ?_
    obtain ⟨x2, hx2, ex2⟩ := int_mod (x := at0 r 2) (n := mo) (by omega)
    obtain ⟨x3, hx3, ex3⟩ := int_mod (x := at0 r 3) (n := mo) (by omega)
    have e16 := (e14.trans e5).trans e6
    refine q_asg (v := .int ((1 + x2 : Nat) : Int)) (ev_is (ev_add ev_c (ev_mod (j := (mo : Int)) (by omega) (ev_int (rw' (i := 2) e16 (by decide) rfl rfl ev_c)) (ev_var rfl))) (by rw [ex2, show (1 : Int) + (x2 : Int) = ((1 + x2 : Nat) : Int) by omega])) fun H7 e7 => ?_
    refine q_asg (v := .int ((1 + x3 : Nat) : Int)) (ev_is (ev_add ev_c (ev_mod (j := (mo : Int)) (by omega) (ev_int (rw' (i := 3) (e16.trans e7) (by decide) rfl rfl ev_c)) (ev_var rfl))) (by rw [ex3, show (1 : Int) + (x3 : Int) = ((1 + x3 : Nat) : Int) by omega])) fun H8 e8 => ?_
    have e18 := (e16.trans e7).trans e8
    have hwm : ∀ x : Nat, x < mo → wi * (1 + x) ≤ 2 * 19 := fun x hx => Nat.mul_le_mul w2 (by omega)
    obtain ⟨b1, hb1, hb1'⟩ : ∃ b : Nat, (wi : Int) * ((1 + x2 : Nat) : Int) + at0 r 5 = (b : Int) ∧ b ≤ 100 := ⟨((wi : Int) * ((1 + x2 : Nat) : Int) + at0 r 5).toNat, by
      have := hwm x2 hx2
      rw [← Int.natCast_mul]
      omega, by
      have := hwm x2 hx2
      rw [← Int.natCast_mul]
      omega⟩
    obtain ⟨b2, hb2a, hb2'⟩ : ∃ b : Nat, (wi : Int) * ((1 + x3 : Nat) : Int) + at0 r 6 = (b : Int) ∧ b ≤ 100 := ⟨((wi : Int) * ((1 + x3 : Nat) : Int) + at0 r 6).toNat, by
      have := hwm x3 hx3
      rw [← Int.natCast_mul]
      omega, by
      have := hwm x3 hx3
      rw [← Int.natCast_mul]
      omega⟩
    refine q_callQ (dvs := []) (ea_cons (ev_var rfl) (ea_cons (ev_var rfl) (ea_cons (ev_is (ev_add (ev_mulL (by omega) (by omega) (ev_var rfl) (ev_var rfl)) (rw' (i := 5) e18 (by decide) rfl rfl ev_c)) (by rw [hb1])) (ea_cons (ev_sub (ev_var rfl) ev_c) ea_nil)))) fun H9 e9 => ⟨n, 1 + x2, b1, ((1 + x2 : Nat) : Int) - 1, rfl, n1, n6, by omega, by omega, hb1', fun R1 a1 a2 v1 H10 e10 hv1 => ?_⟩
    have e110 := (e18.trans e9).trans e10
    refine s_retLst2P (tab_mo (R := R1)) (P2 := GoodP n) good_mo (EvP.of_ev (ev_var rfl) fun H11 e11 => tab_sol.mono e11 hv1) (fun H11 e11 => ep_call (ea_cons (ev_var rfl) (ea_cons (ev_var rfl) (ea_cons (ev_is (ev_add (ev_mulL (by omega) (by omega) (ev_var rfl) (ev_var rfl)) (rw' (i := 6) (e110.trans e11) (by decide) rfl rfl ev_c)) (by rw [hb2a])) (ea_cons (ev_cb (ea_cons (ev_sub (ev_var rfl) ev_c) (ea_cons (rw' (i := 7) (e110.trans e11) (by decide) rfl rfl ev_c) ea_nil)) rc_min) ea_nil)))) fun H12 e12' Q' q' => ⟨n, 1 + x3, b2, _, rfl, n1, n6, by omega, by omega, hb2', fun R2 c1 c2 v2 H13 e13 hv2 => q' v2 H13 e13 ⟨1 + x3, R2, by omega, by omega, c1, c2, hv2⟩⟩) fun p2 x y H11 hp2 e11 h11 hx hy => ?_
    obtain ⟨mm, R2, c0, c1, c2, c3, hy⟩ := hy
    exact q (1 + x2) mm R1 R2 (by omega) (by omega) a1 a2 c0 c1 c2 c3 p2 x y H11 (fresh_back e110 hp2) (e110.trans e11) h11 hx hy
  have e14 := (e12.trans e3).trans e4
  have h24 := e4 _ _ (e3 _ _ h2)
  have tk8 : ∀ {σ : L2.St} {H' : Hp}, Ex H4 H' → σ[3]? = some (some (.ref p)) → EvL (tSl (rSlL K) (tVar 3) tNoPart (tPart (tC (.int 8)))) σ H' (((r.drop 8).take 8).map V.int) := fun {σ H'} e h => by
    have g := el_sl (K := K) (te := tVar 3) (σ := σ) (H := H') (lo := none) (hi := some ((8 : Nat) : Int)) (ev_var h) eo_none (eo_some (te := tC (.int 8)) ev_c) (sq_of (e _ _ h24))
    rw [cutV_pre, ← List.map_take] at g
    exact g
  have tk60 : ∀ {σ : L2.St} {H' : Hp}, Ex H4 H' → σ[3]? = some (some (.ref p)) → EvL (tSl (rSlL K) (tVar 3) tNoPart (tPart (tC (.int 60)))) σ H' (((r.drop 8).take 60).map V.int) := fun {σ H'} e h => by
    have g := el_sl (K := K) (te := tVar 3) (σ := σ) (H := H') (lo := none) (hi := some ((60 : Nat) : Int)) (ev_var h) eo_none (eo_some (te := tC (.int 60)) ev_c) (sq_of (e _ _ h24))
    rw [cutV_pre, ← List.map_take] at g
    exact g
  refine q_when (et_eqI (ev_var rfl) ev_c) (fun hb3 H5 e5 => ?_) (fun hb3 H5 e5 => ?_)
  · refine q_call2L (xs := ((r.drop 8).take 8).map V.int) (dvs := []) (ev_var rfl) (fun H6 e6 => tk8 (e5.trans e6) rfl) fun cp0 H6 e6 h6 => ⟨cp0, (r.drop 8).take 8, n, rfl, n1, n6, sq_of h6, by rw [List.length_take]; omega, fun cs hcl hcw cp H7 hcp e7 g7 => ?_⟩
    have e17 := ((e14.trans e5).trans e6).trans e7
    have h27 := e7 _ _ (e6 _ _ (e5 _ _ h24))
    let row : List Rul := (List.range (cs.map tx).length).map fun k => ((0, cs.getD k []) : Rul)
    have hrow : row.length = n := by
      show ((List.range (cs.map tx).length).map _).length = n
      rw [List.length_map, List.length_range, List.length_map, hcl]
    refine s_retLst2P (tab_mo (R := [row])) (P2 := GoodP n) good_mo (ep_tup1 line_sol (ep_tup pair_sol (ep_lcL (K := K) pair_sol (fun k => ((0, cs.getD k []) : Rul)) (ev_var rfl) (sq_of g7) (by rw [List.length_map]; omega) (fun x => rfl) fun k x H8 e8 hx => by
      have hk := (List.getElem?_eq_some_iff.mp hx).1
      rw [List.length_map] at hk
      rw [code_get hk] at hx
      cases hx
      exact ep_pair (n := 0) ev_c (ev_var rfl)))) (fun H8 e8 => ep_call (ea_cons (ev_var rfl) (ea_cons (ev_var rfl) ea_nil)) fun H9 e9 Q' q' => ⟨p, r.drop 8, n, rfl, n1, n6, sq_of ((e8.trans e9) _ _ h27), by omega, fun R2 c1 c2 v2 H10 e10 hv2 => q' v2 H10 e10 ⟨n + 1, R2, by omega, by omega, c1, c2, hv2⟩⟩) fun p2 x y H8 hp2 e8 h8 hx hy => ?_
    obtain ⟨mm, R2, c0, c1, c2, c3, hy⟩ := hy
    refine q 1 mm [row] R2 (by decide) (by decide) rfl (.of fun r' hr' => ?_) c0 c1 c2 c3 p2 x y H8 (fresh_back e17 hp2) (e17.trans e8) h8 hx hy
    rw [List.mem_singleton.mp hr']
    refine ⟨hrow, range_map_all fun k hk => ?_⟩
    rw [List.length_map] at hk
    have := hcw _ (code_in hk)
    exact ⟨by show 0 < 1; decide, this.1, Nat.le_trans this.2.2 (by decide)⟩
  have e15 := e14.trans e5
  obtain ⟨y2, hy2, ey2⟩ := int_mod (x := at0 r 2) (n := 8) (by decide)
  obtain ⟨y3, hy3, ey3⟩ := int_mod (x := at0 r 3) (n := 12) (by decide)
  have ap3 : ∀ (x y z : Int) (l : List Int), l.length = 60 → ([x, y, z] ++ l).length = 63 ∧ at0 ([x, y, z] ++ l) 1 = y ∧ ([x, y, z] ++ l).drop 3 = l := fun x y z l h => ⟨by rw [List.length_append, h]; rfl, rfl, rfl⟩
  have l60 : ((r.drop 8).take 60).length = 60 := by rw [List.length_take]; omega
  obtain ⟨s1, s2, s3⟩ := ap3 (y2 : Int) (y3 : Int) (at0 r 1) ((r.drop 8).take 60) l60
  refine q_call2L (xs := ([(y2 : Int), (y3 : Int), at0 r 1] ++ (r.drop 8).take 60).map V.int) (dvs := []) (ev_var rfl) (fun H6 e6 => by
    rw [List.map_append]
    exact el_catL (el_lst (ea_cons (ev_is (ev_mod (by decide) (ev_int (rw' (i := 2) (e15.trans e6) (by decide) rfl rfl ev_c)) ev_c) (by rw [show at0 r 2 % 8 = (y2 : Int) from ey2])) (ea_cons (ev_is (ev_mod (by decide) (ev_int (rw' (i := 3) (e15.trans e6) (by decide) rfl rfl ev_c)) ev_c) (by rw [show at0 r 3 % 12 = (y3 : Int) from ey3])) (ea_cons (rw' (i := 1) (e15.trans e6) (by decide) rfl rfl ev_c) ea_nil))) (by show 3 ≤ 100000; decide)) (tk60 (e5.trans e6) rfl) (by rw [List.length_map, List.length_map, l60]; show 3 + 60 ≤ 100000; decide)) fun q0 H6 e6 h6 => ⟨q0, _, n, rfl, n1, n6, sq_of h6, s1, by rw [s2]; omega, by rw [s3]; exact dg_take hDd 60, fun mm R1 m1 m60 a1 a2 v1 H7 e7 hv1 => ?_⟩
  have e17 := (e15.trans e6).trans e7
  have h27 := e7 _ _ (e6 _ _ (e5 _ _ h24))
  refine q_when (et_eqI (ev_var rfl) ev_c) (fun hb4 H8 e8 => ?_) (fun hb4 H8 e8 => ?_)
  · have e18 := e17.trans e8
    obtain ⟨t, xs, rfl, ht, hL⟩ := tab_sol.mono e8 hv1
    refine q_asgL (xs := []) (el_lst ea_nil (by decide)) fun l H9 hl9 e9 h9 => ?_
    have hxl := hL.len
    refine q_forT (a := t) (xs := xs) (ev_var rfl) (st_of (e9 _ _ ht)) (fun i σ' H' => (∃ u12, σ' = [some (.int (n : Int)), some (.ref a), some (.int (at0 r 0)), some (.ref p), none, none, none, none, none, none, some (.ref t), some (.ref l), u12, none, none, none]) ∧ Ex H8 H' ∧ RWat H' l n mm i (fun _ => True)) ?_ ?_ ?_ ?_
    · intro H10 e10
      exact ⟨⟨none, rfl⟩, e9.trans e10, [], [], e10 _ _ h9, .nil, rfl, .nil, fun r h => by cases h⟩
    · rintro i σ' H' hi ⟨_, e10, _⟩
      exact st_of (e10 _ _ ht)
    · rintro i x σ' H' hx ⟨⟨u12, rfl⟩, e10, hW⟩
      obtain ⟨row, hrow, lp, ys, rfl, hlp, hL2⟩ := hL.get hx
      have hil := (List.getElem?_eq_some_iff.mp hx).1
      obtain ⟨hrl, hrg⟩ := a2.mem (List.mem_of_getElem? hrow)
      have hyl := hL2.len
      let fr : Nat → Rul := fun k => ((row.getD k (0, [])).1, flipW (row.getD k (0, [])).2)
      refine s_appRow (r := (List.range ys.length).map fr) hW (by omega) (ev_var rfl) (ep_tup pair_sol (ep_lcT (K := K) pair_sol fr (ev_var rfl) (e10 _ _ hlp) (by omega) (fun x => rfl) fun k y H11 e11 hy => ?_)) (by rw [List.length_map, List.length_range]; omega) (range_map_all fun k hk => ?_) trivial fun H11 e11 ys2 hW2 => ⟨⟨_, rfl⟩, (e10.trans e11).mut hl9, hW2⟩
      · obtain ⟨b, hb, rr, rfl, hrr⟩ := hL2.get hy
        have eb : row.getD k (0, []) = b := by rw [List.getD_eq_getElem?_getD, hb]; rfl
        have hrr2 := e11 _ _ (e10 _ _ hrr)
        obtain ⟨_, g2, g3⟩ := hrg b (List.mem_of_getElem? hb)
        show EvP _ _ _ (PairP ((row.getD k (0, [])).1, flipW (row.getD k (0, [])).2))
        rw [eb]
        refine ep_pair (ev_op (ev_var rfl) ev_c (rv_ixT (st_of hrr2) (atI_nat (j := 0) rfl))) ?_
        have ef : (b.2.map fun c => [97 - c]).flatten = flipW b.2 := by
          have := flat_sing (flipW b.2)
          unfold flipW at this ⊢
          rw [List.map_map] at this
          exact this
        rw [← ef]
        refine ev_joinLB (ps := b.2.map fun c => [97 - c]) (ev_is ev_c (by rw [mt_is])) ?_ (by rw [ef, flip_len]; omega)
        rw [List.map_map]
        refine el_lcS (x := b.2) (tx ∘ fun c => [97 - c]) (ev_op (ev_var rfl) ev_c (rv_ixT (st_of hrr2) (atI_nat (j := 1) rfl))) (by omega) (fun x => rfl) fun i c H12 e12' hc => ?_
        have hcb := g2 c (List.mem_of_getElem? hc)
        have h10 : ([49, 48] : List Nat)[c - 48]? = some (97 - c) := by
          rcases hcb with rfl | rfl
          · rfl
          · rfl
        exact ev_ixS (l := [49, 48]) (by decide) h10 (ev_is ev_c (by rw [show Str.ofString "10" = SX.S [49, 48] from by decide +kernel])) (ev_intS hcb (ev_var rfl))
      · have hk2 : k < row.length := by omega
        have hg : row.getD k (0, []) ∈ row := by
          rw [List.getD_eq_getElem?_getD, List.getElem?_eq_getElem hk2]
          exact List.getElem_mem hk2
        obtain ⟨g1, g2, g3⟩ := hrg _ hg
        exact ⟨g1, flip_bw g2, by show (flipW _).length ≤ 100; rw [flip_len]; exact g3⟩
    · rintro σ' H' ⟨⟨u12, rfl⟩, e10, hW⟩
      rw [hxl] at hW
      obtain ⟨x2, R2, c1, c2, c3, c4, _⟩ := hW
      refine s_retLst2P (tab_mo (R := R1)) (tab_mo (R := R2)) (EvP.of_ev (ev_var rfl) fun H11 e11 => ⟨t, xs, rfl, (e10.trans e11) _ _ ht, hL.mono line_sol (e10.trans e11)⟩) (fun H11 e11 => ep_tup line_sol (P := LineP) (as := R2) (EvP.of_ev (ev_var rfl) fun H12 e12' => ⟨l, x2, rfl, (e11.trans e12') _ _ c1, c2.mono line_sol (e11.trans e12')⟩)) fun p2 x y H11 hp2 e11 h11 hx hy => q mm mm R1 R2 m1 m60 a1 a2 m1 m60 (by omega) c4 p2 x y H11 (fresh_back (e18.trans e10) hp2) ((e18.trans e10).trans e11) h11 hx hy
  · have e18 := e17.trans e8
    have h28 := e8 _ _ h27
    obtain ⟨z7, hz7, ez7⟩ := int_mod (x := at0 r 7) (n := 8) (by decide)
    obtain ⟨z6, hz6, ez6⟩ := int_mod (x := at0 (r.drop 8) 60) (n := 12) (by decide)
    have l60r : ((r.drop 8).take 60).reverse.length = 60 := by rw [List.length_reverse, l60]
    obtain ⟨t1, t2, t3⟩ := ap3 (z7 : Int) (z6 : Int) (at0 r 1 / 2) ((r.drop 8).take 60).reverse l60r
    refine s_retLst2P (tab_mo (R := R1)) (P2 := GoodP n) good_mo (EvP.of_ev (ev_var rfl) fun H9 e9 => tab_sol.mono (e8.trans e9) hv1) (fun H9 e9 => ep_callL (xs := ([(z7 : Int), (z6 : Int), at0 r 1 / 2] ++ ((r.drop 8).take 60).reverse).map V.int) (ev_var rfl) (fun H10 e10 => by
      rw [List.map_append]
      refine el_catL (el_lst (ea_cons (ev_is (ev_mod (by decide) (ev_int (rw' (i := 7) ((e18.trans e9).trans e10) (by decide) rfl rfl ev_c)) ev_c) (by rw [show at0 r 7 % 8 = (z7 : Int) from ez7])) (ea_cons (ev_is (ev_mod (by decide) (ev_int (ev_atI (sq_of ((e9.trans e10) _ _ h28)) (i := 60) (by omega) rfl (ev_var rfl) ev_c)) ev_c) (by rw [show at0 (r.drop 8) 60 % 12 = (z6 : Int) from ez6])) (ea_cons (ev_div (by decide) (by decide) (ev_int (rw' (i := 1) ((e18.trans e9).trans e10) (by decide) rfl rfl ev_c)) ev_c) ea_nil))) (by show 3 ≤ 100000; decide)) ?_ (by rw [List.length_map, List.length_map, l60r]; show 3 + 60 ≤ 100000; decide)
      rw [List.map_reverse]
      exact el_revL (tk60 (((((e5.trans e6).trans e7).trans e8).trans e9).trans e10) rfl)) fun q1 H10 e10 h10 Q' q' => ⟨q1, _, n, rfl, n1, n6, sq_of h10, t1, by rw [t2]; omega, by rw [t3]; exact dg_rev (dg_take hDd 60), fun m2 R2 c0 c1 c2 c3 v2 H11 e11 hv2 => q' v2 H11 e11 ⟨m2, R2, c0, c1, c2, c3, hv2⟩⟩) fun p2 x y H9 hp2 e9 h9 hx hy => ?_
    obtain ⟨m2, R2, c0, c1, c2, c3, hy⟩ := hy
    exact q mm m2 R1 R2 m1 m60 a1 a2 c0 c1 c2 c3 p2 x y H9 (fresh_back e18 hp2) (e18.trans e9) h9 hx hy
end
end Ver
namespace Ver
open PySem PySem.Spec PyProof.Rows L2 Evl
section
variable {P : Program} {w : World} {K : PySem.W.Frag} {mg : Str → Option Value} {base : Heap} {C_Machine : Addr}
/-! ### is_alphabet -/
def lets : List Nat := [48, 49, 50, 51, 52, 53, 54, 55, 56, 57, 97, 98, 99, 100, 101, 102, 103, 104, 105, 106, 107, 108, 109, 110, 111, 112, 113, 114, 115, 116, 117, 118, 119, 120, 121, 122]
theorem lets_is : Str.ofString "0123456789abcdefghijklmnopqrstuvwxyz" = SX.S lets := by decide +kernel
theorem nil_is : Str.ofString "" = SX.S [] := by decide +kernel
theorem let_mem {c : Nat} (h : (48 ≤ c ∧ c ≤ 57) ∨ (97 ≤ c ∧ c ≤ 122)) : c ∈ lets := by
  have k : ∀ d, d < 123 → ((48 ≤ d ∧ d ≤ 57) ∨ (97 ≤ d ∧ d ≤ 122)) → d ∈ lets := by decide +kernel
  exact k c (by omega) h
def spIsAl : Sp := fun vs H Q _ => ∃ al : List Nat, vs = [tx al] ∧ Alf al ∧ RetV (.bl true) H Q
theorem has_isal (F : At K mg "is_alphabet" s_is_alphabet) (T : Top K mg C_Machine) : Has P w K mg base "is_alphabet" s_is_alphabet ["string"] 1 spIsAl := by
  obtain ⟨f, fd, F, m⟩ := F.ex
  obtain ⟨tL, g_LETTERS⟩ := T.g_LETTERS
  obtain ⟨tM, g_MOST_LETTERS⟩ := T.g_MOST_LETTERS
  refine ⟨f, fd, F, F.ok S_is_alphabet (fun vs H Q E h => ?_) (fun cdv A outer s H vs Q E hr h => ?_), F.binds fun _ _ _ _ _ _ us hl => match us, hl with | [_], _ => rfl, m, F.kp⟩
  · obtain ⟨al, rfl, _⟩ := h
    rfl
  obtain ⟨al, rfl, hA, q⟩ := h
  refine ⟨_, (pss_cons
    (ps_if (PW.pt (pw_or (pt_cmpR op_lt (pe_callB call_len_str rfl T.z_len PySem.boot_len (pa_cons (pv 0) pa_nil)) pe_int (nomark _)) (pw_or1 (pt_cmpR op_gt (pe_callB call_len_str rfl T.z_len PySem.boot_len (pa_cons (pv 0) pa_nil)) (pe_glob (v := .int 6) rfl g_MOST_LETTERS ⟨_, rfl⟩) (nomark _))))) (pss_one
    (ps_ret pe_bl)) pss_nil)
    (pss_cons
    (ps_if (pt_cmpR op_ne (pe_bm PySem.F.plainAttrs_str PySem.F.slot_str_strip PySem.F.type_str_strip mt_stripChars (pv 0) (pa_cons (pe_glob (v := .str (Str.ofString "0123456789abcdefghijklmnopqrstuvwxyz")) rfl g_LETTERS ⟨_, rfl⟩) pa_nil)) pe_str (nomark _)) (pss_one
    (ps_ret pe_bl)) pss_nil)
    (pss_one
    (ps_ret (pe_callB (cr_all rfl) rfl T.z_all (by decide +kernel) (pa_cons (pe_lc (own := [("one", 1), ("two", 2)]) (g := gTup K 2 (gCons (gName 1) (gCons (gName 2) gNil))) (tt := tYes) rfl S_is_alphabet.nd (pi_zipS rfl T.z_zip (pa_cons (pv 0) (pa_cons (pe_slice sl_str (pv 0) (po_some pe_int) po_none) pa_nil))) (blkOk_by (N := N_is_alphabet) (sc := defScope s_is_alphabet) (by decide +kernel)) (fun _ _ _ _ _ => pg_tup rfl (pgs_cons (pg_name (i := 1) S_is_alphabet.nd rfl (Or.inl rfl)) (pgs_cons (pg_name (i := 2) S_is_alphabet.nd rfl (Or.inl rfl)) pgs_nil))) (fun _ _ _ _ _ => pts_nil) (fun _ _ _ _ _ => (pe_cmpR op_lt_str (pv 1) (pv 2) (nomark _)))) pa_nil)))))), ?_⟩
  have h6 := hA.six
  have h1 := hA.pos
  refine q_skip (et_is (et_or (et_lt (ev_lenS (by omega) (ev_var rfl)) ev_c) (fun _ => et_gt (ev_lenS (by omega) (ev_var rfl)) ev_c)) (by rw [decide_eq_false (show ¬ (al.length : Int) < 1 by omega), decide_eq_false (show ¬ (6 : Int) < (al.length : Int) by omega)]; rfl)) fun H1 e1 => ?_
  have hst : Txt.stripChars (SX.S al) (Str.ofString "0123456789abcdefghijklmnopqrstuvwxyz") = SX.S [] := by
    rw [lets_is]
    exact strip_chars fun c hc => let_mem (hA.let' c hc)
  refine q_skip (et_is (et_test (ev_op (ev_bm (z := tx []) (ev_var rfl) (fun _ _ => rfl) (ea_cons ev_c ea_nil) fun H2 _ Q' q' => ⟨SX.S al, _, rfl, rfl, by rw [SX.S_len]; exact sz_of (by omega), by rw [hst]; exact q' H2 (Ex.refl H2)⟩) ev_c (rv_ne rfl))) (by rw [nil_is]; simp)) fun H2 e2 => ?_
  refine s_ret (ev_is (ev_allN (bs := (List.range (min al.length (al.drop 1).length)).map fun i => decide (al.getD i 0 < (al.drop 1).getD i 0)) ?_) ?_) fun H3 e3 => q H3 ((e1.trans e2).trans e3)
  · have g := el_lcZ (K := K) (σ := [some (tx al), none, none]) (H := H2) (x := al) (y := al.drop 1) (tp := tCons (tVar 0) (tCons (tSl rSlS (tVar 0) (tPart (tC (.int 1))) tNoPart) tNil)) (j1 := 1) (j2 := 2) (vs := [1, 2]) (te := tOp (fun x y H Q => ∃ i j : Str, x = .str i ∧ y = .str j ∧ Q (.bl (decide (i.cps.toList < j.cps.toList))) H) (tVar 1) (tVar 2))
      (fun i => V.bl (decide (al.getD i 0 < (al.drop 1).getD i 0)))
      (ea_cons (ev_var rfl) (ea_cons (ev_is (ev_slS (by omega) (ev_var rfl) (eo_some (i := ((1 : Nat) : Int)) ev_c) eo_none) (by rw [cutL_from])) ea_nil)) (by omega) (fun a b => rfl) (fun i c d H3 e3 hc hd => ?_)
    · rw [List.map_map]
      exact g
    · have ec : al.getD i 0 = c := by
        rw [List.getD_eq_getElem?_getD, hc]
        rfl
      have ed : (al.drop 1).getD i 0 = d := by
        rw [List.getD_eq_getElem?_getD, hd]
        rfl
      rw [ec, ed]
      refine ev_is (ev_op (ev_var rfl) (ev_var rfl) rv_ltS) ?_
      congr 1
      refine decide_eq_decide.mpr ?_
      constructor
      · intro h
        cases h with
        | rel h => exact h
        | cons h => cases h
      · exact fun h => List.Lex.rel h
  · congr 1
    rw [List.all_eq_true]
    intro b hb
    obtain ⟨i, hi, rfl⟩ := List.mem_map.mp hb
    have hi := List.mem_range.mp hi
    have hl : (al.drop 1).length = al.length - 1 := List.length_drop
    show decide _ = true
    refine decide_eq_true ?_
    rw [List.getD_eq_getElem?_getD, List.getD_eq_getElem?_getD, List.getElem?_drop, List.getElem?_eq_getElem (by omega), List.getElem?_eq_getElem (by omega)]
    exact List.pairwise_iff_getElem.mp hA.asc i (1 + i) (by omega) (by omega) (by omega)
theorem sv_isal {al : List Nat} {H : Hp} (h : Alf al) : SpV spIsAl ([tx al] ++ []) H (.bl true) := fun _ _ _ q _ => ⟨al, rfl, h, q⟩
theorem has_whole (F : At K mg "is_whole" s_is_whole) (T : Top K mg C_Machine) : Has P w K mg base "is_whole" s_is_whole ["value"] 1 spWhole := by
  obtain ⟨f, fd, F, m⟩ := F.ex
  refine ⟨f, fd, F, F.ok S_is_whole (fun vs H Q E h => ?_) (fun cdv A outer s H vs Q E hr h => ?_), F.binds fun _ _ _ _ _ _ us hl => match us, hl with | [_], _ => rfl, m, F.kp⟩
  · obtain ⟨n, rfl, _⟩ := h
    rfl
  obtain ⟨n, rfl, q⟩ := h
  refine ⟨_, (pss_one
    (ps_ret (pe_and (pe_callB call_isi rfl T.z_isinstance (by decide +kernel) (pa_cons (pv 0) (pa_cons (pe_bltn (v := .ty "int") rfl T.z_int (by decide +kernel) rfl) pa_nil))) (pe_one (pe_not (pe_callB call_isi rfl T.z_isinstance (by decide +kernel) (pa_cons (pv 0) (pa_cons (pe_bltn (v := .ty "bool") rfl T.z_bool (by decide +kernel) rfl) pa_nil)))))))), ?_⟩
  exact s_ret (ev_is (ev_andV (ev_cb (ea_cons (ev_var rfl) (ea_cons ev_c ea_nil)) (rc_isi (b := true) (by decide +kernel)))
    (fun _ => ev_notV (ev_cb (ea_cons (ev_var rfl) (ea_cons ev_c ea_nil)) (rc_isi (b := false) (by decide +kernel))))) rfl) q
def spBelow : Sp := fun vs H Q _ => ∃ n m : Int, vs = [.int n, .int m] ∧ RetV (.bl (decide (0 ≤ n) && decide (n < m))) H Q
theorem sv_below {n m : Int} {H : Hp} : SpV spBelow ([V.int n, V.int m] ++ []) H (.bl (decide (0 ≤ n) && decide (n < m))) := fun _ _ _ q _ => ⟨n, m, rfl, q⟩
theorem sv_belowT {n m : Int} {H : Hp} (h0 : 0 ≤ n) (h : n < m) : SpV spBelow ([V.int n, V.int m] ++ []) H (.bl true) := by
  have g := sv_below (n := n) (m := m) (H := H)
  rw [decide_eq_true h0, decide_eq_true h] at g
  exact g
theorem has_below (F : At K mg "is_number_below" s_is_number_below) (T : Top K mg C_Machine) (h1 : Has P w K mg base "is_whole" s_is_whole ["value"] 1 spWhole) : Has P w K mg base "is_number_below" s_is_number_below ["value", "many"] 2 spBelow := by
  obtain ⟨f, fd, F, m⟩ := F.ex
  obtain ⟨f1, fd1, _, G_is_whole, b_is_whole, m_is_whole, k_is_whole⟩ := h1
  refine ⟨f, fd, F, F.ok S_is_number_below (fun vs H Q E h => ?_) (fun cdv A outer s H vs Q E hr h => ?_), F.binds fun _ _ _ _ _ _ us hl => match us, hl with | [_, _], _ => rfl, m, F.kp⟩
  · obtain ⟨n, m, rfl, _⟩ := h
    rfl
  obtain ⟨n, m, rfl, q⟩ := h
  refine ⟨_, (pss_one
    (ps_ret (pe_and (pe_call G_is_whole (hr.mono (by decide)) rfl m_is_whole k_is_whole b_is_whole .nil pass0 (pa_cons (pv 0) pa_nil)) (pe_one (pe_chain op_le op_lt pe_int (pv 0) (pv 1)))))), ?_⟩
  exact s_ret (ev_is (ev_andV (ev_call (ea_cons (ev_var rfl) ea_nil) sv_whole) (fun _ => ev_chainV ev_c (ev_var rfl) rv_I0 (fun _ => ev_var rfl) (fun _ => rv_I0))) (by rw [Bool.true_and])) q
/-! ### check_alphabet, check_text -/
def spCkAl : Sp := fun vs H Q _ => ∃ al : List Nat, vs = [tx al] ∧ Alf al ∧ RetV .non H Q
theorem has_ckal (F : At K mg "check_alphabet" s_check_alphabet) (T : Top K mg C_Machine) (h1 : Has P w K mg base "is_alphabet" s_is_alphabet ["string"] 1 spIsAl) : Has P w K mg base "check_alphabet" s_check_alphabet ["alphabet"] 2 spCkAl := by
  obtain ⟨f, fd, F, m⟩ := F.ex
  obtain ⟨f1, fd1, _, G_is_alphabet, b_is_alphabet, m_is_alphabet, k_is_alphabet⟩ := h1
  refine ⟨f, fd, F, F.ok S_check_alphabet (fun vs H Q E h => ?_) (fun cdv A outer s H vs Q E hr h => ?_), F.binds fun _ _ _ _ _ _ us hl => match us, hl with | [_], _ => rfl, m, F.kp⟩
  · obtain ⟨al, rfl, _⟩ := h
    rfl
  obtain ⟨al, rfl, hA, q⟩ := h
  refine ⟨_, (pss_one
    (ps_if (pt_not (pt_val (pe_call G_is_alphabet (hr.mono (by decide)) rfl m_is_alphabet k_is_alphabet b_is_alphabet .nil pass0 (pa_cons (pv 0) pa_nil)))) (pss_one
    ps_never) pss_nil)), ?_⟩
  exact s_skip (et_not (et_B (ev_call (ea_cons (ev_var rfl) ea_nil) (sv_isal hA)))) fun H1 e1 => q H1 e1
theorem sv_ckal {al : List Nat} {H : Hp} (h : Alf al) : SpV spCkAl ([tx al] ++ []) H .non := fun _ _ _ q _ => ⟨al, rfl, h, q⟩
def spCkTx : Sp := fun vs H Q _ => ∃ al v : List Nat, vs = [tx al, tx v] ∧ (∀ c ∈ v, c ∈ al) ∧ v.length ≤ 100000 ∧ RetV .non H Q
theorem has_cktx (F : At K mg "check_text" s_check_text) (T : Top K mg C_Machine) : Has P w K mg base "check_text" s_check_text ["alphabet", "text"] 1 spCkTx := by
  obtain ⟨f, fd, F, m⟩ := F.ex
  refine ⟨f, fd, F, F.ok S_check_text (fun vs H Q E h => ?_) (fun cdv A outer s H vs Q E hr h => ?_), F.binds fun _ _ _ _ _ _ us hl => match us, hl with | [_, _], _ => rfl, m, F.kp⟩
  · obtain ⟨al, v, rfl, _⟩ := h
    rfl
  obtain ⟨al, v, rfl, hv, hz, q⟩ := h
  refine ⟨_, (pss_cons
    (ps_set (i := 2) S_check_text.nd rfl (Or.inl rfl) (pe_bm PySem.F.plainAttrs_str PySem.F.slot_str_lstrip PySem.F.type_str_lstrip mt_lstripChars (pv 1) (pa_cons (pv 0) pa_nil)))
    (pss_one
    (ps_if (pt_cmpR op_ne (pv 2) pe_str (nomark _)) (pss_one
    ps_never) pss_nil))), ?_⟩
  refine q_asg (v := tx []) (ev_bm (ev_var rfl) (fun _ _ => rfl) (ea_cons (ev_var rfl) ea_nil) fun H2 _ Q' q' => ⟨SX.S v, SX.S al, rfl, rfl, by rw [SX.S_len]; exact sz_of hz, by rw [lstrip_chars hv]; exact q' H2 (Ex.refl H2)⟩) fun H1 e1 => ?_
  exact s_skip (et_is (et_test (ev_op (ev_var rfl) ev_c (rv_ne rfl))) (by rw [nil_is]; simp)) fun H2 e2 => q H2 (e1.trans e2)
theorem sv_cktx {al v : List Nat} {H : Hp} (h : ∀ c ∈ v, c ∈ al) (hz : v.length ≤ 100000) : SpV spCkTx ([tx al, tx v] ++ []) H .non := fun _ _ _ q _ => ⟨al, v, rfl, h, hz, q⟩
end
end Ver
namespace Ver
open PySem PySem.Spec PyProof.Rows L2 Evl
section
variable {P : Program} {w : World} {K : PySem.W.Frag} {mg : Str → Option Value} {base : Heap} {C_Machine : Addr}
/-! ### isinstance(x, (list, tuple)) -/
theorem kit_no {t : String} (h1 : kitB t "list" = some false) (h2 : kitB t "tuple" = some false) : PySem.W.kitAny K (.type t) [.type "list", .type "tuple"] = some false :=
  kitAny_cons (kit_ty h1) (fun _ => kitAny_cons (kit_ty h2) (fun _ => rfl) (fun h => nomatch h)) (fun h => nomatch h)
theorem kit_list : PySem.W.kitAny K (.type "list") [.type "list", .type "tuple"] = some true :=
  kitAny_cons (kit_ty (b := "list") (r := true) (by decide +kernel)) (fun h => nomatch h) (fun _ => rfl)
theorem kit_tuple : PySem.W.kitAny K (.type "tuple") [.type "list", .type "tuple"] = some true :=
  kitAny_cons (kit_ty (b := "list") (r := false) (by decide +kernel)) (fun _ => kitAny_cons (kit_ty (b := "tuple") (r := true) (by decide +kernel)) (fun h => nomatch h) (fun _ => rfl)) (fun h => nomatch h)
theorem ev_isT {ta tu : TE} {σ : L2.St} {H : Hp} {x : V} {t : Value} {b : Bool} (hx : Ev ta σ H x) (hu : EvU tu σ H [.ty "list", .ty "tuple"]) (ht : ∀ H1, Ex H H1 → TyX K H1 x t)
    (hb : PySem.W.kitAny K t [.type "list", .type "tuple"] = some b) : Ev (tCB (rIsiT K) (tCons ta (tCons tu tNil))) σ H (.bl b) := fun H1 e Q q =>
  hx H1 e _ fun H2 e2 => hu H2 (e.trans e2) _ fun p H3 _ e3 h3 => ⟨x, p, _, t, _, b, rfl, h3, .cons (.ty _) (.cons (.ty _) .nil), ht H3 ((e.trans e2).trans e3), hb, q H3 (e2.trans e3)⟩
/-! ### as_tuples, level by level -/
def spNo : Sp := fun _ _ _ _ => False
def flatT (x : V) : Prop := (∃ n, x = .int n) ∨ ∃ z, x = .str z
def Seq (H : Hp) (a : Addr) (xs : List V) : Prop := H a = some (.lst xs) ∨ H a = some (.tup xs)
theorem Seq.mono {H H' : Hp} {a : Addr} {xs : List V} (h : Seq H a xs) (e : Ex H H') : Seq H' a xs := h.elim (fun h => .inl (e _ _ h)) (fun h => .inr (e _ _ h))
theorem Seq.ty {H : Hp} {a : Addr} {xs : List V} (h : Seq H a xs) : ∃ t : Value, (∀ H1, Ex H H1 → TyX K H1 (.ref a) t) ∧ PySem.W.kitAny K t [.type "list", .type "tuple"] = some true := by
  rcases h with h | h
  · exact ⟨_, fun H1 e => .base (.lst (e _ _ h)), kit_list⟩
  · exact ⟨_, fun H1 e => .base (.tup (e _ _ h)), kit_tuple⟩
theorem s_retTup {σ : L2.St} {H : Hp} {te : TE} {D : Ends} (h : te σ H fun x H1 => ∃ p ys, [x] = [V.ref p] ∧ ((SqL K H1 p ys ∧ ∀ l, H1 l = none → D.rt (.ref l) (upd H1 l (.tup ys))) ∨ (SqT K H1 p ys ∧ D.rt (.ref p) H1))) :
    tRet (tCB (fun xs H Q => ∃ p ys, xs = [.ref p] ∧ ((SqL K H p ys ∧ ∀ l, H l = none → Q (.ref l) (upd H l (.tup ys))) ∨ (SqT K H p ys ∧ Q (.ref p) H))) (tCons te tNil)) D σ H := h
/-- a list made over a list or a tuple -/
theorem run_lcSeq {σ : L2.St} {H : Hp} {tl te : TE} {a : Addr} {xs : List V} {j : Nat} {vs : List Nat} {Q : VK} (h : Ev tl σ H (.ref a)) (hS : Seq H a xs) (Pv : Addr → Nat → Hp → Prop)
    (h0 : ∀ H1 Dl, Ex H H1 → H1 Dl = none → Pv Dl 0 (upd H1 Dl (.lst []))) (hG : ∀ Dl i H', Pv Dl i H' → Ex H H')
    (hs : ∀ Dl i x H', xs[i]? = some x → Pv Dl i H' → wipe ((wipe σ vs).set j (some x)) vs = wipe σ vs ∧ te ((wipe σ vs).set j (some x)) H' fun y H4 => ∃ acc, H4 Dl = some (.lst acc) ∧ acc.length < sizeLine ∧ Pv Dl (i + 1) (upd H4 Dl (.lst (acc ++ [y]))))
    (hd : ∀ Dl H', Pv Dl xs.length H' → Q (.ref Dl) H') : tLc (iSeq K tl) (gName j) tYes te vs σ H Q :=
  h H (Ex.refl H) _ fun H1 e1 => ⟨a, rfl, by
    rcases hS.mono e1 with q | q
    · exact .inl ⟨xs, sq_of q, fun Dl hD => lc_list (xs := xs) (Pv Dl) (h0 H1 Dl e1 hD) (fun i H' _ p => by
        have := (hG Dl i H' p)
        rcases hS with y | y
        · exact sq_of (this _ _ y)
        · have := e1 _ _ y
          rw [q] at this
          cases this) (fun i x H' hi p => ⟨(hs Dl i x H' hi p).1, (hs Dl i x H' hi p).2⟩) (hd Dl)⟩
    · exact .inr ⟨xs, st_of q, fun Dl hD => lc_tup (xs := xs) (Pv Dl) (h0 H1 Dl e1 hD) (fun i H' _ p => by
        have := (hG Dl i H' p)
        rcases hS with y | y
        · have := e1 _ _ y
          rw [q] at this
          cases this
        · exact st_of (this _ _ y)) (fun i x H' hi p => ⟨(hs Dl i x H' hi p).1, (hs Dl i x H' hi p).2⟩) (hd Dl)⟩⟩
/-- rows of pairs, each a list or a tuple -/
structure RowsS (H : Hp) (xs : List V) (rs : Rw) : Prop where
  len : xs.length = rs.length
  row : ∀ i x, xs[i]? = some x → i < rs.length ∧ ∃ r, x = .ref r ∧ Seq H r [.int ((rowAt rs i).1 : Int), tx [(rowAt rs i).2]]
theorem RowsS.mono {H H' : Hp} {xs : List V} {rs : Rw} (h : RowsS H xs rs) (e : Ex H H') : RowsS H' xs rs := ⟨h.len, fun i x q => by
  obtain ⟨a, r, b, c⟩ := h.row i x q
  exact ⟨a, r, b, c.mono e⟩⟩
theorem RowsS.get {H : Hp} {xs : List V} {rs : Rw} (h : RowsS H xs rs) {i : Nat} {x : V} (hx : xs[i]? = some x) : i < rs.length ∧ ∃ r, x = .ref r ∧ Seq H r [.int ((rowAt rs i).1 : Int), tx [(rowAt rs i).2]] := h.row i x hx
theorem RowsAt.toS {H : Hp} {xs : List V} {rs : Rw} (h : RowsAt H xs rs) : RowsS H xs rs := ⟨h.len, fun i x q => by
  obtain ⟨a, r, b, c⟩ := h.get q
  exact ⟨a, r, b, .inr c⟩⟩
def spAs0 : Sp := fun vs H Q _ => ∃ x : V, vs = [x] ∧ flatT x ∧ RetV x H Q
def spAs1 : Sp := fun vs H Q _ => ∃ (a : Addr) (xs : List V), vs = [.ref a] ∧ Seq H a xs ∧ xs.length ≤ 40000 ∧ (∀ x ∈ xs, flatT x) ∧ RetU xs H Q
def spAs2 : Sp := fun vs H Q _ => ∃ (a : Addr) (xs : List V) (rs : Rw), vs = [.ref a] ∧ Seq H a xs ∧ xs.length ≤ 40000 ∧ RowsS H xs rs ∧ ∀ p ys H2, H p = none → Ex H H2 → H2 p = some (.tup ys) → RowsAt H2 ys rs → Q (.ref p) H2
theorem as_no {f : Addr} {fd : FuncData} (F : Fun K "as_tuples" "as_tuples" s_as_tuples f fd) : FnOk P w K mg base CX0 1 f fd ["value"] spNo := F.ok S_as_tuples (fun vs H Q E h => h.elim) (fun cdv A outer s H vs Q E hr h => h.elim)
theorem as_0 {f : Addr} {fd : FuncData} (F : Fun K "as_tuples" "as_tuples" s_as_tuples f fd) (T : Top K mg C_Machine) (b_as_tuples : Binds K fd ["value"] []) (m_as_tuples : mg "as_tuples" = some (.ref f)) (k_as_tuples : PySem.W.keepIn K (.ref f) = true) : FnOk P w K mg base CX0 2 f fd ["value"] spAs0 := by
  have G_as_tuples := as_no (P := P) (w := w) (mg := mg) (base := base) F
  refine F.ok S_as_tuples (fun vs H Q E h => ?_) (fun cdv A outer s H vs Q E hr h => ?_)
  · obtain ⟨x, rfl, _⟩ := h
    rfl
  obtain ⟨x, rfl, hx, q⟩ := h
  refine ⟨_, (pss_cons
    (ps_if (pt_val (pe_callB call_isiT rfl T.z_isinstance (by decide +kernel) (pa_cons (pv 0) (pa_cons (pe_tup (pa_cons (pe_bltn (v := .ty "list") rfl T.z_list (by decide +kernel) rfl) (pa_cons (pe_bltn (v := .ty "tuple") rfl T.z_tuple (by decide +kernel) rfl) pa_nil))) pa_nil)))) (pss_one
    (ps_ret (pe_callTy call_tuple_of rfl T.z_tuple (by decide +kernel) (pa_cons (pe_lc (own := [("item", 1)]) (g := gName 1) (tt := tYes) rfl S_as_tuples.nd (pi_seq (pv 0)) (blkOk_by (N := N_as_tuples) (sc := defScope s_as_tuples) (by decide +kernel)) (fun _ _ _ _ _ => pg_name (i := 1) S_as_tuples.nd rfl (Or.inl rfl)) (fun _ _ _ _ _ => pts_nil) (fun _ _ _ _ _ => (pe_call G_as_tuples (hr.mono (by omega)) rfl m_as_tuples k_as_tuples b_as_tuples .nil pass0 (pa_cons (pv 1) pa_nil)))) pa_nil)))) pss_nil)
    (pss_one
    (ps_ret (pv 0)))), ?_⟩
  have ht : ∃ t : Value, (∀ H1, Ex H H1 → TyX K H1 x t) ∧ PySem.W.kitAny K t [.type "list", .type "tuple"] = some false := by
    rcases hx with ⟨n, rfl⟩ | ⟨z, rfl⟩
    · exact ⟨.type "int", fun _ _ => .base (.int n), kit_no (by decide +kernel) (by decide +kernel)⟩
    · exact ⟨.type "str", fun _ _ => .base (.str z), kit_no (by decide +kernel) (by decide +kernel)⟩
  obtain ⟨t, ht, hb⟩ := ht
  refine q_skip (et_B (ev_isT (ev_var rfl) (eu_tup (ea_cons ev_c (ea_cons ev_c ea_nil)) (by show 2 ≤ 100000; decide)) ht hb)) fun H1 e1 => ?_
  exact s_ret (ev_var rfl) fun H2 e2 => q H2 (e1.trans e2)
theorem sv_as0 {x : V} {H : Hp} (h : flatT x) : SpV spAs0 ([x] ++ []) H x := fun _ _ _ q _ => ⟨x, rfl, h, q⟩
theorem as_1 {f : Addr} {fd : FuncData} (F : Fun K "as_tuples" "as_tuples" s_as_tuples f fd) (T : Top K mg C_Machine) (b_as_tuples : Binds K fd ["value"] []) (m_as_tuples : mg "as_tuples" = some (.ref f)) (k_as_tuples : PySem.W.keepIn K (.ref f) = true) : FnOk P w K mg base CX0 3 f fd ["value"] spAs1 := by
  have G_as_tuples := as_0 (P := P) (w := w) (base := base) F T b_as_tuples m_as_tuples k_as_tuples
  refine F.ok S_as_tuples (fun vs H Q E h => ?_) (fun cdv A outer s H vs Q E hr h => ?_)
  · obtain ⟨a, xs, rfl, _⟩ := h
    rfl
  obtain ⟨a, xs, rfl, hS, hz, hx, q⟩ := h
  refine ⟨_, (pss_cons
    (ps_if (pt_val (pe_callB call_isiT rfl T.z_isinstance (by decide +kernel) (pa_cons (pv 0) (pa_cons (pe_tup (pa_cons (pe_bltn (v := .ty "list") rfl T.z_list (by decide +kernel) rfl) (pa_cons (pe_bltn (v := .ty "tuple") rfl T.z_tuple (by decide +kernel) rfl) pa_nil))) pa_nil)))) (pss_one
    (ps_ret (pe_callTy call_tuple_of rfl T.z_tuple (by decide +kernel) (pa_cons (pe_lc (own := [("item", 1)]) (g := gName 1) (tt := tYes) rfl S_as_tuples.nd (pi_seq (pv 0)) (blkOk_by (N := N_as_tuples) (sc := defScope s_as_tuples) (by decide +kernel)) (fun _ _ _ _ _ => pg_name (i := 1) S_as_tuples.nd rfl (Or.inl rfl)) (fun _ _ _ _ _ => pts_nil) (fun _ _ _ _ _ => (pe_call G_as_tuples (hr.mono (by omega)) rfl m_as_tuples k_as_tuples b_as_tuples .nil pass0 (pa_cons (pv 1) pa_nil)))) pa_nil)))) pss_nil)
    (pss_one
    (ps_ret (pv 0)))), ?_⟩
  obtain ⟨t, ht, hb⟩ := hS.ty (K := K)
  refine q_take (et_B (ev_isT (ev_var rfl) (eu_tup (ea_cons ev_c (ea_cons ev_c ea_nil)) (by show 2 ≤ 100000; decide)) ht hb)) fun H1 e1 => ?_
  have hS1 := hS.mono e1
  refine s_retU (xs := xs) (eu_tupOfL ?_) fun p H2 hp e2 h2 => q p H2 (fresh_back e1 hp) (e1.trans e2) h2
  intro H2 e2 Q2 q2
  refine run_lcSeq (σ := [some (.ref a), none]) (ev_var rfl) (hS1.mono e2) (fun Dl i H' => H2 Dl = none ∧ Ex H2 H' ∧ H' Dl = some (.lst (xs.take i))) (fun H3 Dl e3 hD => ⟨fresh_back e3 hD, e3.trans (Ex.new hD), upd_same⟩) (fun Dl i H' p => p.2.1) ?_ ?_
  · intro Dl i x H' hi p
    have hlt := (List.getElem?_eq_some_iff.mp hi).1
    refine ⟨rfl, (ev_call (z := x) (ea_cons (ev_var rfl) ea_nil) (sv_as0 (hx x (List.mem_of_getElem? hi)))) H' (Ex.refl H') _ fun H3 e3 => ⟨xs.take i, e3 _ _ p.2.2, sz_lt (by rw [List.length_take]; omega), p.1, (p.2.1.trans e3).mut p.1, ?_⟩⟩
    rw [List.take_add_one, hi]
    exact upd_same
  · intro Dl H' p
    have p3 := p.2.2
    rw [List.take_length] at p3
    exact q2 Dl H' p.1 p.2.1 p3
theorem su_as1 {a : Addr} {xs : List V} {H : Hp} (h : Seq H a xs) (hz : xs.length ≤ 40000) (hx : ∀ x ∈ xs, flatT x) : SpU spAs1 ([.ref a] ++ []) H xs := fun _ e _ q _ => ⟨a, xs, rfl, h.mono e, hz, hx, q⟩
theorem as_2 {f : Addr} {fd : FuncData} (F : Fun K "as_tuples" "as_tuples" s_as_tuples f fd) (T : Top K mg C_Machine) (b_as_tuples : Binds K fd ["value"] []) (m_as_tuples : mg "as_tuples" = some (.ref f)) (k_as_tuples : PySem.W.keepIn K (.ref f) = true) : FnOk P w K mg base CX0 4 f fd ["value"] spAs2 := by
  have G_as_tuples := as_1 (P := P) (w := w) (base := base) F T b_as_tuples m_as_tuples k_as_tuples
  refine F.ok S_as_tuples (fun vs H Q E h => ?_) (fun cdv A outer s H vs Q E hr h => ?_)
  · obtain ⟨a, xs, rs, rfl, _⟩ := h
    rfl
  obtain ⟨a, xs, rs, rfl, hS, hz, hR, q⟩ := h
  refine ⟨_, (pss_cons
    (ps_if (pt_val (pe_callB call_isiT rfl T.z_isinstance (by decide +kernel) (pa_cons (pv 0) (pa_cons (pe_tup (pa_cons (pe_bltn (v := .ty "list") rfl T.z_list (by decide +kernel) rfl) (pa_cons (pe_bltn (v := .ty "tuple") rfl T.z_tuple (by decide +kernel) rfl) pa_nil))) pa_nil)))) (pss_one
    (ps_ret (pe_callTy call_tuple_of rfl T.z_tuple (by decide +kernel) (pa_cons (pe_lc (own := [("item", 1)]) (g := gName 1) (tt := tYes) rfl S_as_tuples.nd (pi_seq (pv 0)) (blkOk_by (N := N_as_tuples) (sc := defScope s_as_tuples) (by decide +kernel)) (fun _ _ _ _ _ => pg_name (i := 1) S_as_tuples.nd rfl (Or.inl rfl)) (fun _ _ _ _ _ => pts_nil) (fun _ _ _ _ _ => (pe_call G_as_tuples (hr.mono (by omega)) rfl m_as_tuples k_as_tuples b_as_tuples .nil pass0 (pa_cons (pv 1) pa_nil)))) pa_nil)))) pss_nil)
    (pss_one
    (ps_ret (pv 0)))), ?_⟩
  obtain ⟨t, ht, hb⟩ := hS.ty (K := K)
  refine q_take (et_B (ev_isT (ev_var rfl) (eu_tup (ea_cons ev_c (ea_cons ev_c ea_nil)) (by show 2 ≤ 100000; decide)) ht hb)) fun H1 e1 => ?_
  have hS1 := hS.mono e1
  refine s_retTup (run_lcSeq (ev_var rfl) hS1 (fun Dl i H' => H1 Dl = none ∧ Ex H1 H' ∧ ∃ ys, H' Dl = some (.lst ys) ∧ RowsAt H' ys (rs.take i)) (fun H3 Dl e3 hD => ⟨fresh_back e3 hD, e3.trans (Ex.new hD), [], upd_same, .nil⟩) (fun Dl i H' p => p.2.1) ?_ ?_)
  · intro Dl i x H' hi p
    obtain ⟨p1, p2, ys, p3, p4⟩ := p
    obtain ⟨hlt, r, rfl, hr⟩ := hR.get hi
    have hr2 := hr.mono (e1.trans p2)
    refine ⟨rfl, (eu_call (ea_cons (ev_var rfl) ea_nil) (su_as1 (xs := [.int ((rowAt rs i).1 : Int), tx [(rowAt rs i).2]]) hr2 (by show 2 ≤ 40000; decide) (fun x hx => ?_))) H' (Ex.refl H') _ fun r2 H3 hr3 e3 h3 => ?_⟩
    · rcases List.mem_cons.mp hx with rfl | hx
      · exact .inl ⟨_, rfl⟩
      · rw [List.mem_singleton.mp hx]
        exact .inr ⟨_, rfl⟩
    · have hl := p4.len
      rw [List.length_take] at hl
      have hx := hR.len
      refine ⟨ys, e3 _ _ p3, sz_lt (by omega), p1, (p2.trans e3).mut p1, ys ++ [.ref r2], upd_same, ?_⟩
      have g := (p4.mono e3).snoc (r := r2) (p := (rowAt rs i).1) (c := (rowAt rs i).2) h3
      have et : rs.take (i + 1) = rs.take i ++ [((rowAt rs i).1, (rowAt rs i).2)] := by
        rw [List.take_add_one, rowAt_get hlt]
        rfl
      rw [et]
      exact g.upd (e3 _ _ p3) fun ys => by
        intro z
        cases z
  · intro Dl H' p
    obtain ⟨p1, p2, ys, p3, p4⟩ := p
    refine ⟨Dl, ys, rfl, .inl ⟨sq_of p3, fun l hl => ?_⟩⟩
    have e9 : rs.take xs.length = rs := List.take_of_length_le (by rw [hR.len]; exact Nat.le_refl _)
    rw [e9] at p4
    exact q l ys _ (fresh_back (e1.trans p2) hl) ((e1.trans p2).trans (Ex.new hl)) upd_same (p4.mono (Ex.new hl))
theorem has_as (F : At K mg "as_tuples" s_as_tuples) (T : Top K mg C_Machine) : Has P w K mg base "as_tuples" s_as_tuples ["value"] 4 spAs2 := by
  obtain ⟨f, fd, F, m⟩ := F.ex
  have b := F.binds (ps := ["value"]) fun _ _ _ _ _ _ us hl => match us, hl with | [_], _ => rfl
  exact ⟨f, fd, F, as_2 F T b m F.kp, b, m, F.kp⟩
end
end Ver
namespace Ver
open PySem PySem.Spec PyProof.Rows L2 Evl
theorem b01_is : Str.ofString "01" = SX.S [48, 49] := by decide +kernel
/-! ### nested rows, lists or tuples -/
def SeqP {α : Type} (P : α → HV) (as : List α) : HV := fun H v => ∃ r ys, v = .ref r ∧ Seq H r ys ∧ LsP P H ys as
abbrev Mono {α : Type} (P : α → HV) : Prop := ∀ (a : α) (H H' : Hp) (v : V), Ex H H' → P a H v → P a H' v
theorem LsP.mono2 {α : Type} {P : α → HV} {H H' : Hp} {xs : List V} {as : List α} (S : Mono P) (h : LsP P H xs as) (e : Ex H H') : LsP P H' xs as := ⟨h.len, fun i a q => by
  obtain ⟨x, a1, a2⟩ := h.at_ i a q
  exact ⟨x, a1, S _ _ _ _ e a2⟩⟩
theorem LsP.imp {α : Type} {P P' : α → HV} {H : Hp} {xs : List V} {as : List α} (h : LsP P H xs as) (g : ∀ a v, P a H v → P' a H v) : LsP P' H xs as := ⟨h.len, fun i a q => by
  obtain ⟨x, a1, a2⟩ := h.at_ i a q
  exact ⟨x, a1, g _ _ a2⟩⟩
theorem LsP.to {α : Type} {P P' : α → HV} {H H' : Hp} {xs : List V} {as : List α} (h : LsP P H xs as) (g : ∀ a v, P a H v → P' a H' v) : LsP P' H' xs as := ⟨h.len, fun i a q => by
  obtain ⟨x, a1, a2⟩ := h.at_ i a q
  exact ⟨x, a1, g _ _ a2⟩⟩
theorem SeqP.mono {α : Type} {P : α → HV} (S : Mono P) : Mono (SeqP P) := fun _ _ _ _ e ⟨r, ys, h1, h2, h3⟩ => ⟨r, ys, h1, h2.mono e, h3.mono2 S e⟩
def PairS (a : Rul) : HV := fun H v => ∃ r, v = .ref r ∧ Seq H r [.int (a.1 : Int), tx a.2]
theorem pairS_mono : Mono PairS := fun _ _ _ _ e ⟨r, h1, h2⟩ => ⟨r, h1, h2.mono e⟩
abbrev LineS : List Rul → HV := SeqP PairS
theorem lineS_mono : Mono LineS := SeqP.mono pairS_mono
theorem PairP.s {a : Rul} {H : Hp} {v : V} (h : PairP a H v) : PairS a H v := by
  obtain ⟨r, h1, h2⟩ := h
  exact ⟨r, h1, .inr h2⟩
theorem LineP_s {a : List Rul} {H : Hp} {v : V} (h : LineP a H v) : LineS a H v := by
  obtain ⟨r, ys, h1, h2, h3⟩ := h
  exact ⟨r, ys, h1, .inr h2, h3.imp fun a v => PairP.s⟩
/-- for letter, .. in zip(a text, a tuple) -/
theorem s_forZST {K : PySem.W.Frag} {σ : L2.St} {H : Hp} {D : Ends} {tp : TA} {tb : TS} {g : TG} {x : List Nat} {b : Addr} {ys : List V} (h : EvA tp σ H [tx x, .ref b]) (hy : H b = some (.tup ys)) (hl : ys.length = x.length) (Pv : Nat → L2.St → Hp → Prop) (h0 : ∀ H1, Ex H H1 → Pv 0 σ H1) (hG : ∀ i σ' H', Pv i σ' H' → Ex H H')
    (hs : ∀ i c y σ' H' T H2, x[i]? = some c → ys[i]? = some y → Pv i σ' H' → Ex H' H2 → H2 T = some (.tup [tx [c], y]) → g (.ref T) σ' H2 fun σ2 H5 => tb { D with nx := Pv (i + 1), ct := Pv (i + 1), bk := D.nx } σ2 H5)
    (hd : ∀ σ' H', Pv x.length σ' H' → D.nx σ' H') : tFor (iZipST K tp) g tb D σ H := h H (Ex.refl H) _ fun H1 e1 => by
  have hn : min (SX.S x).cps.size ys.length = x.length := by
    show min x.toArray.size ys.length = _
    rw [List.size_toArray, hl, Nat.min_self]
  refine ⟨SX.S x, b, ys, rfl, st_of (e1 _ _ hy), for_it (walk_zst (x := SX.S x) (ys := ys)) Pv (h0 H1 e1) (fun i σ' H' _ p => st_of ((hG i σ' H' p) _ _ hy)) (fun i v σ' H3 H4 hi p yp => ?_) (by rw [hn]; exact hd)⟩
  obtain ⟨T, a, d, rfl, hT, rfl, ha, hd2⟩ := yp
  have ha2 : (x[i]?).map (fun c => tx [c]) = some a := ha
  cases hx : x[i]? with
  | none =>
    rw [hx] at ha2
    cases ha2
  | some c =>
  rw [hx] at ha2
  cases ha2
  exact hs i c d σ' H3 T _ hx hd2 p (Ex.new hT) upd_same
section
variable {P : Program} {w : World} {K : PySem.W.Frag} {mg : Str → Option Value} {base : Heap} {C_Machine : Addr}
/-! ### is_bits -/
def spBits : Sp := fun vs H Q _ => ∃ b : List Nat, vs = [tx b] ∧ (∀ c ∈ b, c = 48 ∨ c = 49) ∧ b.length ≤ 1000 ∧ RetV (.bl true) H Q
theorem has_isb (F : At K mg "is_bits" s_is_bits) (T : Top K mg C_Machine) : Has P w K mg base "is_bits" s_is_bits ["value"] 1 spBits := by
  obtain ⟨f, fd, F, m⟩ := F.ex
  refine ⟨f, fd, F, F.ok S_is_bits (fun vs H Q E h => ?_) (fun cdv A outer s H vs Q E hr h => ?_), F.binds fun _ _ _ _ _ _ us hl => match us, hl with | [_], _ => rfl, m, F.kp⟩
  · obtain ⟨b, rfl, _⟩ := h
    rfl
  obtain ⟨b, rfl, hb, hz, q⟩ := h
  refine ⟨_, (pss_one
    (ps_ret (pe_and (pe_callB call_isi rfl T.z_isinstance (by decide +kernel) (pa_cons (pv 0) (pa_cons (pe_bltn (v := .ty "str") rfl T.z_str (by decide +kernel) rfl) pa_nil))) (pe_one (pe_cmpR op_eq (pe_bm PySem.F.plainAttrs_str PySem.F.slot_str_strip PySem.F.type_str_strip mt_stripChars (pv 0) (pa_cons pe_str pa_nil)) pe_str (nomark _)))))), ?_⟩
  have hst : Txt.stripChars (SX.S b) (Str.ofString "01") = SX.S [] := by
    rw [b01_is]
    exact strip_chars fun c hc => by
      rcases hb c hc with e | e <;> simp [e]
  refine s_ret (ev_is (ev_andV (a := true) (b := true) (ev_cb (ea_cons (ev_var rfl) (ea_cons ev_c ea_nil)) (rc_isiS (b := true) (by decide +kernel))) fun _ => ev_is (ev_op (ev_bm (z := tx []) (ev_var rfl) (fun _ _ => rfl) (ea_cons ev_c ea_nil) fun H2 _ Q' q' => ⟨SX.S b, _, rfl, rfl, by rw [SX.S_len]; exact sz_of (by omega), by rw [hst]; exact q' H2 (Ex.refl H2)⟩) ev_c (rv_eq rfl)) (by rw [nil_is]; simp)) rfl) q
theorem sv_isb {b : List Nat} {H : Hp} (h : ∀ c ∈ b, c = 48 ∨ c = 49) (hz : b.length ≤ 1000) : SpV spBits ([tx b] ++ []) H (.bl true) := fun _ _ _ q _ => ⟨b, rfl, h, hz, q⟩
/-! ### as_tuples on rules -/
def spAsP {α : Type} (S P : α → HV) : Sp := fun vs H Q _ => ∃ as : List α, ∃ v : V, vs = [v] ∧ SeqP S as H v ∧ as.length ≤ 1000 ∧ ∀ v2 H2, Ex H H2 → TupP P as H2 v2 → Q v2 H2
theorem as_up {α : Type} {S P' : α → HV} {k : Nat} {sp0 : Sp} {f : Addr} {fd : FuncData} (F : Fun K "as_tuples" "as_tuples" s_as_tuples f fd) (T : Top K mg C_Machine) (hS : Mono S) (hP : Sol P') (b_as_tuples : Binds K fd ["value"] []) (m_as_tuples : mg "as_tuples" = some (.ref f)) (k_as_tuples : PySem.W.keepIn K (.ref f) = true)
    (G_as_tuples : FnOk P w K mg base CX0 k f fd ["value"] sp0) (hsp : ∀ a v H Q E, S a H v → (∀ v2 H2, Ex H H2 → P' a H2 v2 → Q v2 H2) → sp0 [v] H Q E) : FnOk P w K mg base CX0 (k + 1) f fd ["value"] (spAsP S P') := by
  refine F.ok S_as_tuples (fun vs H Q E h => ?_) (fun cdv A outer s H vs Q E hr h => ?_)
  · obtain ⟨as, v, rfl, _⟩ := h
    rfl
  obtain ⟨as, v, rfl, ⟨a, xs, rfl, hQ, hL⟩, hz, q⟩ := h
  refine ⟨_, (pss_cons
    (ps_if (pt_val (pe_callB call_isiT rfl T.z_isinstance (by decide +kernel) (pa_cons (pv 0) (pa_cons (pe_tup (pa_cons (pe_bltn (v := .ty "list") rfl T.z_list (by decide +kernel) rfl) (pa_cons (pe_bltn (v := .ty "tuple") rfl T.z_tuple (by decide +kernel) rfl) pa_nil))) pa_nil)))) (pss_one
    (ps_ret (pe_callTy call_tuple_of rfl T.z_tuple (by decide +kernel) (pa_cons (pe_lc (own := [("item", 1)]) (g := gName 1) (tt := tYes) rfl S_as_tuples.nd (pi_seq (pv 0)) (blkOk_by (N := N_as_tuples) (sc := defScope s_as_tuples) (by decide +kernel)) (fun _ _ _ _ _ => pg_name (i := 1) S_as_tuples.nd rfl (Or.inl rfl)) (fun _ _ _ _ _ => pts_nil) (fun _ _ _ _ _ => (pe_call G_as_tuples (hr.mono (by omega)) rfl m_as_tuples k_as_tuples b_as_tuples .nil pass0 (pa_cons (pv 1) pa_nil)))) pa_nil)))) pss_nil)
    (pss_one
    (ps_ret (pv 0)))), ?_⟩
  obtain ⟨t, ht, hb⟩ := hQ.ty (K := K)
  refine q_take (et_B (ev_isT (ev_var rfl) (eu_tup (ea_cons ev_c (ea_cons ev_c ea_nil)) (by show 2 ≤ 100000; decide)) ht hb)) fun H1 e1 => ?_
  have hS1 := hQ.mono e1
  have hlen := hL.len
  refine s_retTup (run_lcSeq (ev_var rfl) hS1 (fun Dl i H' => H1 Dl = none ∧ Ex H1 H' ∧ ∃ ys, H' Dl = some (.lst ys) ∧ LsP P' H' ys (as.take i)) (fun H3 Dl e3 hD => ⟨fresh_back e3 hD, e3.trans (Ex.new hD), [], upd_same, .nil⟩) (fun Dl i H' p => p.2.1) ?_ ?_)
  · intro Dl i x H' hi p
    obtain ⟨p1, p2, ys, p3, p4⟩ := p
    obtain ⟨y, hy, hx⟩ := hL.get hi
    have hlt := (List.getElem?_eq_some_iff.mp hy).1
    have hx2 := hS _ _ _ _ (e1.trans p2) hx
    have hl := p4.len
    rw [List.length_take] at hl
    refine ⟨rfl, (ep_call (P := P' y) (ea_cons (ev_var rfl) ea_nil) fun H2 e2 Q' q' => hsp y x H2 Q' _ (hS _ _ _ _ e2 hx2) q') H' (Ex.refl H') _ fun v2 H3 e3 h3 => ?_⟩
    have g := e3 _ _ p3
    refine ⟨ys, g, sz_lt (by omega), p1, (p2.trans e3).mut p1, ys ++ [v2], upd_same, ?_⟩
    have et : as.take (i + 1) = as.take i ++ [y] := by
      rw [List.take_add_one, hy]
      rfl
    rw [et]
    exact ((p4.mono hP e3).upd hP g).snoc (hP.upd g h3)
  · intro Dl H' p
    obtain ⟨p1, p2, ys, p3, p4⟩ := p
    refine ⟨Dl, ys, rfl, .inl ⟨sq_of p3, fun l hl => ?_⟩⟩
    rw [List.take_of_length_le (by omega)] at p4
    exact q _ _ ((e1.trans p2).trans (Ex.new hl)) ⟨l, ys, rfl, upd_same, p4.mono hP (Ex.new hl)⟩
theorem has_asP (F : At K mg "as_tuples" s_as_tuples) (T : Top K mg C_Machine) : Has P w K mg base "as_tuples" s_as_tuples ["value"] 5 (spAsP (fun (a : List Rul) H v => LineS a H v ∧ a.length ≤ 1000) LineP) := by
  obtain ⟨f, fd, F, m⟩ := F.ex
  have b := F.binds (ps := ["value"]) fun _ _ _ _ _ _ us hl => match us, hl with | [_], _ => rfl
  have g1 := as_1 (P := P) (w := w) (base := base) F T b m F.kp
  have g2 := as_up (S := PairS) (P' := PairP) F T pairS_mono pair_sol b m F.kp g1 (fun a v H Q E ⟨r, h1, h2⟩ q => ⟨r, _, by rw [h1], h2, by show 2 ≤ 40000; decide, fun x hx => by
    rcases List.mem_cons.mp hx with rfl | hx
    · exact .inl ⟨_, rfl⟩
    · rw [List.mem_singleton.mp hx]
      exact .inr ⟨_, rfl⟩, fun p H2 hp e2 h3 => q _ H2 e2 ⟨p, rfl, h3⟩⟩)
  have g3 := as_up (S := fun (a : List Rul) H v => LineS a H v ∧ a.length ≤ 1000) (P' := LineP) F T (fun _ _ _ _ e h => ⟨lineS_mono _ _ _ _ e h.1, h.2⟩) line_sol b m F.kp g2 (fun a v H Q E h q => ⟨a, v, rfl, h.1, h.2, q⟩)
  exact ⟨f, fd, F, g3, b, m, F.kp⟩
end
end Ver
namespace Ver
open PySem PySem.Spec PyProof.Rows L2 Evl
section
variable {P : Program} {w : World} {K : PySem.W.Frag} {mg : Str → Option Value} {base : Heap} {C_Machine : Addr}
theorem rc_lenTu {H : Hp} {p : Addr} {xs : List V} (h : H p = some (.tup xs)) : RC (fun vs H Q => ∃ p ys, vs = [V.ref p] ∧ (SqL K H p ys ∨ SqT K H p ys) ∧ Q (V.int ys.length) H) [.ref p] H (.int xs.length) := rc_lenT (st_of h)
/-! ### check_row_lengths -/
def spCrl : Sp := fun vs H Q _ => ∃ (al : List Nat) (p : Addr) (xs : List V) (R : Tbl), vs = [tx al, .ref p] ∧ H p = some (.tup xs) ∧ LsP LineP H xs R ∧ TblOk al.length R ∧ al.length ≤ 1000 ∧ RetV .non H Q
theorem has_crl (F : At K mg "check_row_lengths" s_check_row_lengths) (T : Top K mg C_Machine) : Has P w K mg base "check_row_lengths" s_check_row_lengths ["alphabet", "rows"] 1 spCrl := by
  obtain ⟨f, fd, F, m⟩ := F.ex
  refine ⟨f, fd, F, F.ok S_check_row_lengths (fun vs H Q E h => ?_) (fun cdv A outer s H vs Q E hr h => ?_), F.binds fun _ _ _ _ _ _ us hl => match us, hl with | [_, _], _ => rfl, m, F.kp⟩
  · obtain ⟨al, p, xs, R, rfl, _⟩ := h
    rfl
  obtain ⟨al, p, xs, R, rfl, hp, hL, ok, hz, q⟩ := h
  refine ⟨_, (pss_cons
    (ps_if (pt_cmpR op_eq (pe_callB call_len_seq rfl T.z_len PySem.boot_len (pa_cons (pv 1) pa_nil)) pe_int (nomark _)) (pss_one
    ps_never) pss_nil)
    (pss_one
    (ps_for PassesOwn.never rfl (pi_enumT rfl T.z_enumerate (pa_cons (pv 1) pa_nil)) (pg_tup rfl (pgs_cons (pg_name (i := 2) S_check_row_lengths.nd rfl (Or.inl rfl)) (pgs_cons (pg_name (i := 3) S_check_row_lengths.nd rfl (Or.inl rfl)) pgs_nil))) (pss_one
    (ps_if (pt_cmpR op_ne (pe_callB call_len_seq rfl T.z_len PySem.boot_len (pa_cons (pv 3) pa_nil)) (pe_callB call_len_str rfl T.z_len PySem.boot_len (pa_cons (pv 0) pa_nil)) (nomark _)) (pss_one
    ps_never) pss_nil))))), ?_⟩
  have hl := hL.len
  have h1 := ok.pos
  refine q_skip (et_is (et_eqI (ev_cb (ea_cons (ev_var rfl) ea_nil) (rc_lenTu hp)) ev_c) (decide_eq_false (by omega))) fun H1 e1 => ?_
  refine s_forET (xs := xs) (ea_cons (ev_var rfl) ea_nil) (ex_t e1 (st_of hp)) (fun i σ' H' => (∃ u2 u3, σ' = [some (tx al), some (.ref p), u2, u3]) ∧ Ex H H') (fun H2 e2 => ⟨⟨none, none, rfl⟩, e1.trans e2⟩) (fun i σ' H' p => st_of (p.2 _ _ hp)) ?_ (fun σ' H' p => q H' p.2)
  intro i x σ' H' H2 hx pv e2
  obtain ⟨⟨u2, u3, rfl⟩, e3⟩ := pv
  obtain ⟨row, hr2, r, ys, rfl, hy, hL2⟩ := hL.get hx
  have hy2 := (e3.trans e2) _ _ hy
  have hrl := ok.row _ _ hr2
  have hyl := hL2.len
  exact s_when (b := false) (et_is (et_neI (ev_cb (ea_cons (ev_var rfl) ea_nil) (rc_lenTu hy2)) (ev_lenS (l := al) (by omega) (ev_var rfl))) (by rw [hyl, hrl]; simp)) (fun z => nomatch z) fun _ H3 e4 => ⟨⟨_, _, rfl⟩, (e3.trans e2).trans e4⟩
theorem sv_crl {al : List Nat} {p : Addr} {xs : List V} {R : Tbl} {H : Hp} (hp : H p = some (.tup xs)) (hL : LsP LineP H xs R) (ok : TblOk al.length R) (hz : al.length ≤ 1000) : SpV spCrl ([tx al, .ref p] ++ []) H .non := fun _ e _ q _ => ⟨al, p, xs, R, rfl, e _ _ hp, hL.mono line_sol e, ok, hz, q⟩
/-! ### check_rules -/
def spCr : Sp := spCrl
theorem has_cr (F : At K mg "check_rules" s_check_rules) (T : Top K mg C_Machine) (h1 : Has P w K mg base "check_row_lengths" s_check_row_lengths ["alphabet", "rows"] 1 spCrl) (h2 : Has P w K mg base "is_number_below" s_is_number_below ["value", "many"] 2 spBelow) (h3 : Has P w K mg base "is_bits" s_is_bits ["value"] 1 spBits) : Has P w K mg base "check_rules" s_check_rules ["alphabet", "rules"] 3 spCr := by
  obtain ⟨f, fd, F, m⟩ := F.ex
  obtain ⟨f1, fd1, _, G_check_row_lengths, b_check_row_lengths, m_check_row_lengths, k_check_row_lengths⟩ := h1
  obtain ⟨f2, fd2, _, G_is_number_below, b_is_number_below, m_is_number_below, k_is_number_below⟩ := h2
  obtain ⟨f3, fd3, _, G_is_bits, b_is_bits, m_is_bits, k_is_bits⟩ := h3
  refine ⟨f, fd, F, F.ok S_check_rules (fun vs H Q E h => ?_) (fun cdv A outer s H vs Q E hr h => ?_), F.binds fun _ _ _ _ _ _ us hl => match us, hl with | [_, _], _ => rfl, m, F.kp⟩
  · obtain ⟨al, p, xs, R, rfl, _⟩ := h
    rfl
  obtain ⟨al, p, xs, R, rfl, hp, hL, ok, hz, q⟩ := h
  refine ⟨_, (pss_cons
    (ps_expr (pe_call G_check_row_lengths (hr.mono (by decide)) rfl m_check_row_lengths k_check_row_lengths b_check_row_lengths .nil pass0 (pa_cons (pv 0) (pa_cons (pv 1) pa_nil))))
    (pss_one
    (ps_for PassesOwn.never rfl (pi_enumT rfl T.z_enumerate (pa_cons (pv 1) pa_nil)) (pg_tup rfl (pgs_cons (pg_name (i := 2) S_check_rules.nd rfl (Or.inl rfl)) (pgs_cons (pg_name (i := 3) S_check_rules.nd rfl (Or.inl rfl)) pgs_nil))) (pss_one
    (ps_for PassesOwn.never rfl (pi_zipST rfl T.z_zip (pa_cons (pv 0) (pa_cons (pv 3) pa_nil))) (pg_tup rfl (pgs_cons (pg_name (i := 4) S_check_rules.nd rfl (Or.inl rfl)) (pgs_cons (pg_tup rfl (pgs_cons (pg_name (i := 5) S_check_rules.nd rfl (Or.inl rfl)) (pgs_cons (pg_name (i := 6) S_check_rules.nd rfl (Or.inl rfl)) pgs_nil))) pgs_nil))) (pss_one
    (ps_if (PW.pt (pw_or (pt_not (pt_val (pe_call G_is_number_below (hr.mono (by decide)) rfl m_is_number_below k_is_number_below b_is_number_below .nil pass0 (pa_cons (pv 5) (pa_cons (pe_callB call_len_seq rfl T.z_len PySem.boot_len (pa_cons (pv 1) pa_nil)) pa_nil))))) (pw_or1 (pt_not (pt_val (pe_call G_is_bits (hr.mono (by decide)) rfl m_is_bits k_is_bits b_is_bits .nil pass0 (pa_cons (pv 6) pa_nil))))))) (pss_one
    ps_never) pss_nil))))))), ?_⟩
  have hl := hL.len
  refine q_drop (ev_call (ea_cons (ev_var rfl) (ea_cons (ev_var rfl) ea_nil)) (sv_crl hp hL ok hz)) fun H1 e1 => ?_
  refine s_forET (xs := xs) (ea_cons (ev_var rfl) ea_nil) (ex_t e1 (st_of hp)) (fun i σ' H' => (∃ u2 u3 u4 u5 u6, σ' = [some (tx al), some (.ref p), u2, u3, u4, u5, u6]) ∧ Ex H H') (fun H2 e2 => ⟨⟨none, none, none, none, none, rfl⟩, e1.trans e2⟩) (fun i σ' H' p => st_of (p.2 _ _ hp)) ?_ (fun σ' H' p => q H' p.2)
  intro i x σ' H' H2 hx pv e2
  obtain ⟨⟨u2, u3, u4, u5, u6, rfl⟩, e3⟩ := pv
  obtain ⟨row, hr2, r, ys, rfl, hy, hL2⟩ := hL.get hx
  have hi : i < R.length := (List.getElem?_eq_some_iff.mp hr2).1
  have e32 := e3.trans e2
  have hy2 := e32 _ _ hy
  have hrl := ok.row _ _ hr2
  have hyl := hL2.len
  refine s_forZST (x := al) (ys := ys) (b := r) (ea_cons (ev_var rfl) (ea_cons (ev_var rfl) ea_nil)) hy2 (by omega) (fun k σ' H' => (∃ u4 u5 u6, σ' = [some (tx al), some (.ref p), some (.int (i : Int)), some (.ref r), u4, u5, u6]) ∧ Ex H2 H') (fun H3 e4 => ⟨⟨u4, u5, u6, rfl⟩, e4⟩) (fun k σ' H' p => p.2) ?_ (fun σ' H' p => ⟨⟨_, _, _, _, _, p.1.choose_spec.choose_spec.choose_spec⟩, e32.trans p.2⟩)
  intro k c y σ' H3 Tp H4 hc hy3 pv e4 hT
  obtain ⟨⟨u4, u5, u6, rfl⟩, e5⟩ := pv
  obtain ⟨a, ha, rr, rfl, hrr⟩ := hL2.get hy3
  have e24 := e32.trans (e5.trans e4)
  have hk : k < al.length := (List.getElem?_eq_some_iff.mp hc).1
  have ea : a = rl R i k := by
    have h9 := rl_at ok hi hk
    rw [row_at hi] at hr2
    cases hr2
    rw [ha] at h9
    exact Option.some.inj h9
  have hrr4 := e24 _ _ hrr
  refine ⟨Tp, _, rfl, st_of hT, rfl, _, _, rfl, _, _, rfl, rr, _, rfl, st_of hrr4, rfl, _, _, rfl, _, _, rfl, rfl, rfl, ?_⟩
  have low := ok.low i k hi hk
  have bit := ok.bit i k hi hk
  have len := ok.len i k hi hk
  rw [← ea] at low bit len
  exact s_when (b := false) (et_is (et_or (a := false) (b := false) (et_is (et_not (et_B (ev_call (ea_cons (ev_var rfl) (ea_cons (ev_cb (ea_cons (ev_var rfl) ea_nil) (rc_lenTu (e24 _ _ hp))) ea_nil)) (sv_belowT (n := (a.1 : Int)) (m := (xs.length : Int)) (by omega) (by omega))))) rfl) fun _ => et_is (et_not (et_B (ev_call (ea_cons (ev_var rfl) ea_nil) (sv_isb bit (by omega))))) rfl) rfl) (fun z => nomatch z) fun _ H5 e6 => ⟨⟨_, _, _, rfl⟩, (e5.trans e4).trans e6⟩
theorem sv_cr {al : List Nat} {p : Addr} {xs : List V} {R : Tbl} {H : Hp} (hp : H p = some (.tup xs)) (hL : LsP LineP H xs R) (ok : TblOk al.length R) (hz : al.length ≤ 1000) : SpV spCr ([tx al, .ref p] ++ []) H .non := fun _ e _ q _ => ⟨al, p, xs, R, rfl, e _ _ hp, hL.mono line_sol e, ok, hz, q⟩
end
end Ver
namespace Ver
open PySem PySem.Spec PyProof.Rows L2 Evl
abbrev nts (l : List Nat) : List V := l.map fun k : Nat => V.int (k : Int)
def nxts (R : Tbl) : List (List V) := R.map fun row => row.map fun a => V.int (a.1 : Int)
theorem et_dninK {σ : L2.St} {H : Hp} {td ty : TE} {a : Addr} {y : V} {o : Option V} (hy : Ev ty σ H y) (hd : Ev td σ H (.ref a)) (hg : ∀ H1, Ex H H1 → DGet H1 a y o) : EvT (tB (tDNotIn ty td)) σ H (!o.isSome) := fun H1 e Q q =>
  hy H1 e _ fun H2 e2 => hd H2 (e.trans e2) _ fun H3 e3 => ⟨a, o, rfl, hg H3 ((e.trans e2).trans e3), !o.isSome, rfl, q H3 (e2.trans e3)⟩
theorem q_disp1 {σ : L2.St} {H : Hp} {D : Ends} {tz : TS} {tk tv : TE} {i : Nat} {n v : V} {k : Key} (hk : Ev tk σ H n) (hv : Ev tv σ H v) (en : n = kV k) (g : ∀ d H1, H d = none → Ex H H1 → H1 d = some (.dK [(k, v)]) → tz D (σ.set i (some (.ref d))) H1) : tSeq (tAsg (tDisp [(tk, tv)]) (gName i)) tz D σ H := by
  subst en
  intro d hd
  refine hk _ (Ex.new hd) _ fun H2 e2 => hv H2 ((Ex.new hd).trans e2) _ fun H3 e3 => ?_
  exact ⟨e3 _ _ (e2 _ _ upd_same), [(k, v)], rfl, by show 1 ≤ 15; decide, g d _ hd (((Ex.new hd).trans (e2.trans e3)).mut hd) upd_same⟩
theorem valV_one {n m : Int} {v : V} : valV [((Sum.inl n : Key), v)] (Sum.inl m) = if m = n then some v else none := by
  unfold valV
  by_cases c : m = n
  · subst c
    simp
  · have : (Sum.inl n : Key) ≠ Sum.inl m := fun z => c (Sum.inl.inj z).symm
    simp [this, c]
theorem s_retCall2L {σ : L2.St} {H : Hp} {D : Ends} {sp : Sp} {dvs xs : List V} {y : V} {E : XK} {tl tb : TE} (hl : EvL tl σ H xs) (hb : ∀ H1, Ex H H1 → Ev tb σ H1 y) (k : ∀ p H1, H p = none → Ex H H1 → H1 p = some (.lst xs) → sp ([.ref p, y] ++ dvs) H1 D.rt E) : tRet (tCall sp dvs E (tCons tl (tCons tb tNil))) D σ H :=
  hl H (Ex.refl H) _ fun p H1 hp e1 h1 => hb H1 e1 H1 (Ex.refl H1) _ fun H2 e2 => k p H2 hp (e1.trans e2) (e2 _ _ h1)
section
variable {P : Program} {w : World} {K : PySem.W.Frag} {mg : Str → Option Value} {base : Heap} {C_Machine : Addr}
/-! ### nexts_of -/
def spNx : Sp := fun vs H Q _ => ∃ (p : Addr) (xs : List V) (R : Tbl), vs = [.ref p] ∧ H p = some (.tup xs) ∧ LsP LineP H xs R ∧ R.length ≤ 1000 ∧ (∀ r ∈ R, r.length ≤ 1000) ∧ ∀ l ys H2, H l = none → Ex H H2 → H2 l = some (.lst ys) → LLs H2 ys (nxts R) → Q (.ref l) H2
theorem has_nx (F : At K mg "nexts_of" s_nexts_of) (T : Top K mg C_Machine) : Has P w K mg base "nexts_of" s_nexts_of ["rules"] 1 spNx := by
  obtain ⟨f, fd, F, m⟩ := F.ex
  refine ⟨f, fd, F, F.ok S_nexts_of (fun vs H Q E h => ?_) (fun cdv A outer s H vs Q E hr h => ?_), F.binds fun _ _ _ _ _ _ us hl => match us, hl with | [_], _ => rfl, m, F.kp⟩
  · obtain ⟨p, xs, R, rfl, _⟩ := h
    rfl
  obtain ⟨p, xs, R, rfl, hp, hL, hz, hz2, q⟩ := h
  refine ⟨_, (pss_one
    (ps_ret (pe_lc (own := [("row", 1)]) (g := gName 1) (tt := tYes) rfl S_nexts_of.nd (pi_tup (pv 0)) (blkOk_by (N := N_nexts_of) (sc := defScope s_nexts_of) (by decide +kernel)) (fun _ _ _ _ _ => pg_name (i := 1) S_nexts_of.nd rfl (Or.inl rfl)) (fun _ _ _ _ _ => pts_nil) (fun _ _ _ _ _ => (pe_lc (own := [("rule", 2)]) (g := gName 2) (tt := tYes) rfl S_nexts_of.nd (show PI _ _ _ (iTup K _) from pi_tup (pv 1)) (blkOk_by (N := N_nexts_of) (sc := { kind := .function, names := [(Str.ofString ".0", .local), (Str.ofString "row", .local)], isGenerator := false, isCoroutine := false }) (by decide +kernel)) (fun _ _ _ _ _ => pg_name (i := 2) S_nexts_of.nd rfl (Or.inl rfl)) (fun _ _ _ _ _ => pts_nil) (fun _ _ _ _ _ => (pe_ix (r := rIxT K) ix_tup (pv 2) pe_int (fun _ _ => rfl)))))))), ?_⟩
  have hl := hL.len
  refine ell_lcT (K := K) (fun i => (R.getD i []).map fun a => V.int (a.1 : Int)) (ev_var rfl) hp (by omega) (fun x => rfl) (fun i x H1 e1 hx => ?_) H (Ex.refl H) _ fun l ys H2 hl2 e2 g2 L2' => q l ys H2 hl2 e2 g2 ?_
  · obtain ⟨row, hr, r, zs, rfl, hz3, hL3⟩ := hL.get hx
    have hrl := hz2 row (List.mem_of_getElem? hr)
    have er : R.getD i [] = row := by rw [List.getD_eq_getElem?_getD, hr]; rfl
    have hzl := hL3.len
    rw [er]
    have em := map_at row (0, []) (fun a : Rul => V.int (a.1 : Int)) hzl
    rw [← em]
    refine el_lcT (K := K) _ (ev_var rfl) (e1 _ _ hz3) (by omega) (fun x => rfl) fun k y H3 e3 hy => ?_
    obtain ⟨a, ha, rr, rfl, hrr⟩ := hL3.get hy
    have ea : row.getD k (0, []) = a := by rw [List.getD_eq_getElem?_getD, ha]; rfl
    rw [ea]
    exact ev_op (ev_var rfl) ev_c (rv_ixT (st_of (e3 _ _ (e1 _ _ hrr))) (atI_nat (j := 0) rfl))
  · have em : _ = nxts R := map_at R [] (fun row : List Rul => row.map fun a => V.int (a.1 : Int)) hl
    rw [← em]
    exact L2'
/-! ### first_of_classes, reached_in -/
def idl (n : Nat) : List V := (List.range n).map fun i => V.int ((i : Nat) : Int)
theorem idl_at {n i : Nat} (h : i < n) : (idl n)[i]? = some (.int (i : Int)) := by
  unfold idl
  rw [List.getElem?_map, List.getElem?_range h]
  rfl
def spFc : Sp := fun vs H Q _ => ∃ (c l : Addr) (n : Nat) (ys : List V) (as : List (List V)), vs = [.ref c, .ref l] ∧ H c = some (.lst (idl n)) ∧ H l = some (.lst ys) ∧ LLs H ys as ∧ as.length = n ∧ 1 ≤ n ∧ n ≤ 1000 ∧ (∀ a ∈ as, ∀ x ∈ a, ∃ k : Nat, k < n ∧ x = .int (k : Int)) ∧ ∀ os : List Nat, os.length ≤ n → RetL (nts os) H Q
theorem has_fc (F : At K mg "first_of_classes" s_first_of_classes) (T : Top K mg C_Machine) : Has P w K mg base "first_of_classes" s_first_of_classes ["classes", "nexts"] 1 spFc := by
  obtain ⟨f, fd, F, m⟩ := F.ex
  refine ⟨f, fd, F, F.ok S_first_of_classes (fun vs H Q E h => ?_) (fun cdv A outer s H vs Q E hr h => ?_), F.binds fun _ _ _ _ _ _ us hl => match us, hl with | [_, _], _ => rfl, m, F.kp⟩
  · obtain ⟨c, l, n, ys, as, rfl, _⟩ := h
    rfl
  obtain ⟨c, l, n, ys, as, rfl, hc, hl, hL, hn, n1, nz, hx, q⟩ := h
  refine ⟨_, (pss_cons
    (ps_set (i := 2) S_first_of_classes.nd rfl (Or.inl rfl) (pe_lst (pa_cons pe_int pa_nil)))
    (pss_cons
    (ps_set (i := 3) S_first_of_classes.nd rfl (Or.inl rfl) (pe_disp (pps_cons (pe_ix (r := rIxL K) ix_list (pv 0) pe_int (fun _ _ => rfl)) pe_bl pps_nil) (by rfl) (by rfl) (fun z => by cases z) (by decide)))
    (pss_cons
    (ps_set (i := 4) S_first_of_classes.nd rfl (Or.inl rfl) pe_int)
    (pss_cons
    (ps_while PassesOwn.never (pt_cmpR op_lt (pv 4) (pe_callB call_len_seq rfl T.z_len PySem.boot_len (pa_cons (pv 2) pa_nil)) (nomark _)) (pss_cons
    (ps_set (i := 5) S_first_of_classes.nd rfl (Or.inl rfl) (pe_ix (r := rIxL K) ix_list (pv 2) (pv 4) (fun _ _ => rfl)))
    (pss_cons
    (ps_for PassesOwn.never rfl (pi_list (pe_ix (r := rIxL K) ix_list (pv 1) (pv 5) (fun _ _ => rfl))) (pg_name (i := 6) S_first_of_classes.nd rfl (Or.inl rfl)) (pss_one
    (ps_if (pt_cmp (pc_dnotin (hu_of hr) (pe_ix (r := rIxL K) ix_list (pv 0) (pv 6) (fun _ _ => rfl)) (pv 3))) (pss_cons
    (ps_dput (hu_of hr) (pv 3) (pe_ix (r := rIxL K) ix_list (pv 0) (pv 6) (fun _ _ => rfl)) pe_bl rfl)
    (pss_one
    (ps_expr (pe_bm PySem.F.plainAttrs_list PySem.F.slot_list_append PySem.F.type_list_append mt_append (pv 2) (pa_cons (pv 6) pa_nil))))) pss_nil)))
    (pss_one
    (ps_aug (i := 4) S_first_of_classes.nd rfl (Or.inl rfl) pe_int ip_add)))))
    (pss_one
    (ps_ret (pv 2))))))), ?_⟩
  have cls : ∀ {σ : L2.St} {H' : Hp} {te : TE} {k : Nat}, Ex H H' → k < n → σ[0]? = some (some (.ref c)) → Ev te σ H' (.int (k : Int)) → Ev (tOp (rIxL K) (tVar 0) te) σ H' (.int (k : Int)) := fun e hk h he => ev_op (ev_var h) he (rv_ixL (sq_of (e _ _ hc)) (atI_nat (idl_at hk)))
  refine q_asgL (xs := [.int ((0 : Nat) : Int)]) (el_lst (ea_cons ev_c ea_nil) (by show 1 ≤ 100000; decide)) fun o H1 ho e1 h1 => ?_
  refine q_disp1 (k := Sum.inl ((0 : Nat) : Int)) (cls (k := 0) e1 n1 rfl ev_c) ev_c rfl fun d H2 hd e2 h2 => ?_
  refine q_asg (v := .int ((0 : Nat) : Int)) ev_c fun H3 e3 => ?_
  have hd0 : H d = none := fresh_back e1 hd
  have e13 := (e1.trans e2).trans e3
  refine q_while (fun m σ' H' => ∃ (at' : Nat) (os : List Nat) (kvs : List (Key × V)) (u5 u6 : Option V), σ' = [some (.ref c), some (.ref l), some (.ref o), some (.ref d), some (.int (at' : Int)), u5, u6] ∧ Ex H H' ∧ H' o = some (.lst (nts os)) ∧ H' d = some (.dK kvs) ∧ kvs.length = os.length ∧ (∀ k : Nat, (valV kvs (Sum.inl (k : Int))).isSome = decide (k ∈ os)) ∧ os.Nodup ∧ (∀ k ∈ os, k < n) ∧ at' ≤ os.length ∧ m = n - at') n
    ⟨0, [0], [(Sum.inl ((0 : Nat) : Int), .bl true)], none, none, rfl, e13, e3 _ _ (e2 _ _ h1), e3 _ _ h2, rfl, fun k => by
      rw [valV_one]
      by_cases z : k = 0
      · subst z
        rfl
      · rw [if_neg (by omega)]
        simp [z], by simp, fun k hk => by rw [List.mem_singleton.mp hk]; exact n1, Nat.zero_le _, rfl⟩ ?_
  rintro mm σ' H' ⟨at', os, kvs, u5, u6, rfl, e4, ho4, hd4, hk4, hv4, nd4, lt4, at4, rfl⟩
  have hfew : os.length ≤ n := by
    have := nodup_sub os (List.range n) nd4 fun x hx => List.mem_range.mpr (lt4 x hx)
    rw [List.length_range] at this
    exact this
  refine ⟨decide ((at' : Int) < (os.length : Int)), et_is (et_lt (ev_var rfl) (ev_cb (ea_cons (ev_var rfl) ea_nil) (rc_lenL (sq_of ho4)))) (by rw [List.length_map]), fun hb H5 e5 => ?_, fun hb H5 e5 => ?_⟩
  · have hb2 := of_decide_eq_true hb
    have hat : at' < os.length := by omega
    have hg : os[at']? = some (os.getD at' 0) := by
      rw [List.getD_eq_getElem?_getD, List.getElem?_eq_getElem hat]
      rfl
    have hsn := lt4 _ (List.mem_of_getElem? hg)
    have go : (nts os)[at']? = some (.int ((os.getD at' 0 : Nat) : Int)) := by rw [List.getElem?_map, hg]; rfl
    refine ⟨fun σ2 H2' => ∃ (at2 : Nat) (os : List Nat) (kvs : List (Key × V)) (u5 u6 : Option V), σ2 = [some (.ref c), some (.ref l), some (.ref o), some (.ref d), some (.int (at2 : Int)), u5, u6] ∧ Ex H H2' ∧ H2' o = some (.lst (nts os)) ∧ H2' d = some (.dK kvs) ∧ kvs.length = os.length ∧ (∀ k : Nat, (valV kvs (Sum.inl (k : Int))).isSome = decide (k ∈ os)) ∧ os.Nodup ∧ (∀ k ∈ os, k < n) ∧ at2 ≤ os.length ∧ at2 = at' + 1,
      fun σ2 H2' ⟨at2, os, kvs, u5, u6, h1, h2, h3, h4, h5, h6, h7, h8, h9, h10⟩ => ⟨n - at2, by omega, at2, os, kvs, u5, u6, h1, h2, h3, h4, h5, h6, h7, h8, h9, rfl⟩, ?_⟩
    refine q_asg (v := .int ((os.getD at' 0 : Nat) : Int)) (ev_op (ev_var rfl) (ev_var rfl) (rv_ixL (sq_of (e5 _ _ ho4)) (atI_nat go))) fun H6 e6 => ?_
    have e46 := e4.trans (e5.trans e6)
    obtain ⟨r, hr1, hr2⟩ := hL.at_ (os.getD at' 0) _ (List.getElem?_eq_getElem (by omega))
    have hrow := hx (as[os.getD at' 0]'(by omega)) (List.getElem_mem _)
    generalize as[os.getD at' 0]'(by omega) = row at hr2 hrow
    refine q_forL (a := r) (xs := row) (ev_op (ev_var rfl) (ev_var rfl) (rv_ixL (sq_of (e46 _ _ hl)) (atI_nat hr1))) (sq_of (e46 _ _ hr2)) (fun i σ' H' => ∃ (os2 : List Nat) (kvs : List (Key × V)) (u6 : Option V), σ' = [some (.ref c), some (.ref l), some (.ref o), some (.ref d), some (.int (at' : Int)), some (.int ((os.getD at' 0 : Nat) : Int)), u6] ∧ Ex H H' ∧ H' o = some (.lst (nts os2)) ∧ H' d = some (.dK kvs) ∧ kvs.length = os2.length ∧ (∀ k : Nat, (valV kvs (Sum.inl (k : Int))).isSome = decide (k ∈ os2)) ∧ os2.Nodup ∧ (∀ k ∈ os2, k < n) ∧ os.length ≤ os2.length) ?_ ?_ ?_ ?_
    · intro H7 e7
      exact ⟨os, kvs, u6, rfl, e46.trans e7, e7 _ _ (e6 _ _ (e5 _ _ ho4)), e7 _ _ (e6 _ _ (e5 _ _ hd4)), hk4, hv4, nd4, lt4, Nat.le_refl _⟩
    · rintro i σ' H' hi ⟨os2, kvs2, u6, rfl, e7, _⟩
      exact sq_of (e7 _ _ hr2)
    · rintro i x σ' H' hx2 ⟨os2, kvs2, u6, rfl, e7, ho7, hd7, hk7, hv7, nd7, lt7, le7⟩
      obtain ⟨k, hk, rfl⟩ := hrow x (List.mem_of_getElem? hx2)
      have hfew2 : os2.length ≤ n := by
        have := nodup_sub os2 (List.range n) nd7 fun x hx => List.mem_range.mpr (lt7 x hx)
        rw [List.length_range] at this
        exact this
      have nod : o ≠ d := ne_of ho7 hd7 (by intro z; cases z)
      refine s_when (et_is (et_dninK (o := valV kvs2 (Sum.inl (k : Int))) (cls e7 hk rfl (ev_var rfl)) (ev_var rfl) fun H8 e8 => DGet.k (k := Sum.inl (k : Int)) (e8 _ _ hd7)) (by rw [hv7])) (fun hb H8 e8 => ?_) (fun hb H8 e8 => ?_)
      · have nin : k ∉ os2 := by simpa using hb
        refine q_dput (v := .bl true) (y := .int (k : Int)) (g := fun H9 => L2.upd H9 d (.dK (putK kvs2 (Sum.inl (k : Int)) (.bl true)))) ev_c (ev_var rfl) (cls (e7.trans e8) hk rfl (ev_var rfl)) (fun H9 e9 => DPut.k (k := Sum.inl (k : Int)) (e9 _ _ (e8 _ _ hd7)) (sz_lt (by omega))) fun H9 e9 => ?_
        have e10 : Ex H (L2.upd H9 d (.dK (putK kvs2 (Sum.inl (k : Int)) (.bl true)))) := ((e7.trans e8).trans e9).mut hd0
        have ho10 : (L2.upd H9 d (.dK (putK kvs2 (Sum.inl (k : Int)) (.bl true)))) o = some (.lst (nts os2)) := by rw [upd_ne nod]; exact e9 _ _ (e8 _ _ ho7)
        have hd10 : (L2.upd H9 d (.dK (putK kvs2 (Sum.inl (k : Int)) (.bl true)))) d = some (.dK (putK kvs2 (Sum.inl (k : Int)) (.bl true))) := upd_same
        generalize L2.upd H9 d (.dK (putK kvs2 (Sum.inl (k : Int)) (.bl true))) = G at e10 ho10 hd10 ⊢
        refine s_app ho10 (ev_var rfl) (ev_var rfl) (by rw [List.length_map]; omega) fun H11 e11 => ⟨os2 ++ [k], putK kvs2 (Sum.inl (k : Int)) (.bl true), _, rfl, (e10.trans e11).mut ho, ?_, ?_, ?_, fun j => ?_, ?_, ?_, by rw [List.length_append]; omega⟩
        · rw [show nts (os2 ++ [k]) = nts os2 ++ [V.int (k : Int)] from List.map_append]
          exact upd_same
        · rw [upd_ne nod.symm]
          exact e11 _ _ hd10
        · have hnone : valV kvs2 (Sum.inl (k : Int)) = none := by
            have := hv7 k
            rw [decide_eq_false nin] at this
            cases hh : valV kvs2 (Sum.inl (k : Int)) with
            | none => rfl
            | some v => rw [hh] at this; cases this
          rw [putK_new _ hnone, List.length_append, List.length_append, hk7]
          rfl
        · rw [valV_put]
          by_cases z : j = k
          · subst z
            rw [if_pos rfl]
            simp
          · rw [if_neg (fun e => z (by have := Sum.inl.inj e; omega)), hv7]
            simp [z]
        · exact List.nodup_append.mpr ⟨nd7, by simp, fun x hx y hy e => nin (by rw [← List.mem_singleton.mp hy, ← e]; exact hx)⟩
        · intro j hj
          rcases List.mem_append.mp hj with hj | hj
          · exact lt7 j hj
          · rw [List.mem_singleton.mp hj]
            exact hk
      · exact ⟨os2, kvs2, _, rfl, e7.trans e8, e8 _ _ ho7, e8 _ _ hd7, hk7, hv7, nd7, lt7, le7⟩
    · rintro σ' H' ⟨os2, kvs2, u6, rfl, e7, ho7, hd7, hk7, hv7, nd7, lt7, le7⟩
      refine s_aug (f := fun a b => a + b) (a := (at' : Int)) rfl ev_c fun H8 e8 => ⟨at' + 1, os2, kvs2, _, _, rfl, e7.trans e8, e8 _ _ ho7, e8 _ _ hd7, hk7, hv7, nd7, lt7, by omega, rfl⟩
  · exact s_ret (ev_var rfl) fun H6 e6 => q os hfew _ _ ho ((e4.trans e5).trans e6) (e6 _ _ (e5 _ _ ho4))
def spRi : Sp := fun vs H Q _ => ∃ (l : Addr) (ys : List V) (as : List (List V)), vs = [.ref l] ∧ H l = some (.lst ys) ∧ LLs H ys as ∧ 1 ≤ as.length ∧ as.length ≤ 1000 ∧ (∀ a ∈ as, ∀ x ∈ a, ∃ k : Nat, k < as.length ∧ x = .int (k : Int)) ∧ ∀ os : List Nat, os.length ≤ as.length → RetL (nts os) H Q
theorem has_ri (F : At K mg "reached_in" s_reached_in) (T : Top K mg C_Machine) (h1 : Has P w K mg base "first_of_classes" s_first_of_classes ["classes", "nexts"] 1 spFc) : Has P w K mg base "reached_in" s_reached_in ["nexts"] 2 spRi := by
  obtain ⟨f, fd, F, m⟩ := F.ex
  obtain ⟨f1, fd1, _, G_first_of_classes, b_first_of_classes, m_first_of_classes, k_first_of_classes⟩ := h1
  refine ⟨f, fd, F, F.ok S_reached_in (fun vs H Q E h => ?_) (fun cdv A outer s H vs Q E hr h => ?_), F.binds fun _ _ _ _ _ _ us hl => match us, hl with | [_], _ => rfl, m, F.kp⟩
  · obtain ⟨l, ys, as, rfl, _⟩ := h
    rfl
  obtain ⟨l, ys, as, rfl, hl, hL, n1, nz, hx, q⟩ := h
  refine ⟨_, (pss_one
    (ps_ret (pe_call G_first_of_classes (hr.mono (by decide)) rfl m_first_of_classes k_first_of_classes b_first_of_classes .nil pass0 (pa_cons (pe_listRg rfl rfl T.z_list (prg_1 rfl T.z_range (pe_callB call_len_seq rfl T.z_len PySem.boot_len (pa_cons (pv 0) pa_nil)))) (pa_cons (pv 0) pa_nil))))), ?_⟩
  have hlen := hL.len
  have ei : (nl (fun k => k) as.length).map V.int = idl as.length := by
    unfold nl idl
    rw [List.map_map]
    rfl
  refine s_retCall2L (el_lrg (n := as.length) (ev_is (ev_cb (ea_cons (ev_var rfl) ea_nil) (rc_lenL (sq_of hl))) (by rw [hlen])) (by omega)) (fun H1 e1 => ev_var rfl) fun c H2 hc e12 h1 => ?_
  rw [ei] at h1
  refine ⟨c, l, as.length, ys, as, rfl, h1, e12 _ _ hl, hL.mono e12, rfl, n1, nz, hx, fun os ho p H3 hp e3 h3 => q os ho p H3 (fresh_back e12 hp) (e12.trans e3) h3⟩
theorem sl_ri {l : Addr} {ys : List V} {as : List (List V)} {H : Hp} {Q : VK} {E : XK} (hl : H l = some (.lst ys)) (hL : LLs H ys as) (n1 : 1 ≤ as.length) (nz : as.length ≤ 1000) (hx : ∀ a ∈ as, ∀ x ∈ a, ∃ k : Nat, k < as.length ∧ x = .int (k : Int)) (q : ∀ os : List Nat, os.length ≤ as.length → RetL (nts os) H Q) : spRi [.ref l] H Q E := ⟨l, ys, as, rfl, hl, hL, n1, nz, hx, q⟩
end
end Ver
namespace Ver
open PySem PySem.Spec PyProof.Rows L2 Evl
def mchFs (al : List Nat) (ra : Addr) (n : Nat) (rc : Addr) : List (Str × V) := putF "reached" (.ref rc) (putF "standings" (.int (n : Int)) (putF "rules" (.ref ra) (putF "alphabet" (tx al) [])))
theorem mf_alphabet {al : List Nat} {ra rc : Addr} {n : Nat} : (mchFs al ra n rc).lookup ("alphabet" : Str) = some (tx al) := by
  unfold mchFs
  rw [lookup_putF, if_neg (by decide +kernel), lookup_putF, if_neg (by decide +kernel), lookup_putF, if_neg (by decide +kernel), lookup_putF, if_pos rfl]
theorem mf_rules {al : List Nat} {ra rc : Addr} {n : Nat} : (mchFs al ra n rc).lookup ("rules" : Str) = some (.ref ra) := by
  unfold mchFs
  rw [lookup_putF, if_neg (by decide +kernel), lookup_putF, if_neg (by decide +kernel), lookup_putF, if_pos rfl]
theorem mf_meth {al : List Nat} {ra rc : Addr} {n : Nat} {m : Str} (h1 : m ≠ "reached") (h2 : m ≠ "standings") (h3 : m ≠ "rules") (h4 : m ≠ "alphabet") : (mchFs al ra n rc).lookup m = none := by
  unfold mchFs
  rw [lookup_putF, if_neg h1, lookup_putF, if_neg h2, lookup_putF, if_neg h3, lookup_putF, if_neg h4]
  rfl
/-- a machine at p -/
structure MchAt (C : Addr) (H : Hp) (p : Addr) (al : List Nat) (R : Tbl) : Prop where
  ex : ∃ (dx ra rc : Addr) (xs : List V), H p = some (.ins C dx (mchFs al ra R.length rc)) ∧ H ra = some (.tup xs) ∧ LsP LineP H xs R
  alf : Alf al
  ok : TblOk al.length R
theorem MchAt.mono {C : Addr} {H H' : Hp} {p : Addr} {al : List Nat} {R : Tbl} (h : MchAt C H p al R) (e : Ex H H') : MchAt C H' p al R := by
  obtain ⟨dx, ra, rc, xs, h1, h2, h3⟩ := h.ex
  exact ⟨⟨dx, ra, rc, xs, e _ _ h1, e _ _ h2, h3.mono line_sol e⟩, h.alf, h.ok⟩
theorem tup_upi {H : Hp} {p q C dx : Addr} {fs gs : List (Str × V)} {ys : List V} (hp : H p = some (.ins C dx fs)) (h : H q = some (.tup ys)) : (upd H p (.ins C dx gs)) q = some (.tup ys) := by
  rw [upd_ne (ne_of h hp (by intro z; cases z))]
  exact h
theorem lsp_upi {H : Hp} {p C dx : Addr} {fs gs : List (Str × V)} (hp : H p = some (.ins C dx fs)) {xs : List V} {R : Tbl} (h : LsP LineP H xs R) : LsP LineP (upd H p (.ins C dx gs)) xs R :=
  h.to fun a v ⟨r, ys, h1, h2, h3⟩ => ⟨r, ys, h1, tup_upi hp h2, h3.to fun b u ⟨r2, k1, k2⟩ => ⟨r2, k1, tup_upi hp k2⟩⟩
/-- on the way -/
structure WayM (C : Addr) (H0 : Hp) (p dx ra : Addr) (ys : List V) (R : Tbl) (fs : List (Str × V)) (H : Hp) : Prop where
  e : Ex H0 H
  ins : H p = some (.ins C dx fs)
  row : H ra = some (.tup ys)
  rat : LsP LineP H ys R
theorem WayM.mono {C : Addr} {H0 : Hp} {p dx ra : Addr} {ys : List V} {R : Tbl} {fs : List (Str × V)} {H H' : Hp} (h : WayM C H0 p dx ra ys R fs H) (e : Ex H H') : WayM C H0 p dx ra ys R fs H' := ⟨h.e.trans e, e _ _ h.ins, e _ _ h.row, h.rat.mono line_sol e⟩
theorem WayM.put {C : Addr} {H0 : Hp} {p dx ra : Addr} {ys : List V} {R : Tbl} {fs gs : List (Str × V)} {H : Hp} (h : WayM C H0 p dx ra ys R fs H) (hp : H0 p = none) : WayM C H0 p dx ra ys R gs (upd H p (.ins C dx gs)) :=
  ⟨h.e.mut hp, upd_same, tup_upi h.ins h.row, lsp_upi h.ins h.rat⟩
/-- what a machine is made of -/
def RulS (R : Tbl) : HV := SeqP (fun (a : List Rul) H v => LineS a H v ∧ a.length ≤ 1000) R
theorem RulS.mono {R : Tbl} {H H' : Hp} {v : V} (e : Ex H H') (h : RulS R H v) : RulS R H' v := SeqP.mono (fun _ _ _ _ e h => ⟨lineS_mono _ _ _ _ e h.1, h.2⟩) _ _ _ _ e h
theorem TabP.s {n : Nat} {R : Tbl} {H : Hp} {v : V} (h : TabP R H v) (ok : TblOk n R) (hn : n ≤ 1000) : RulS R H v := by
  obtain ⟨r, ys, h1, h2, h3⟩ := h
  refine ⟨r, ys, h1, .inr h2, h3.len, fun i a q => ?_⟩
  obtain ⟨x, k1, k2⟩ := h3.at_ i a q
  exact ⟨x, k1, LineP_s k2, by rw [ok.row i a q]; exact hn⟩
section
variable {P : Program} {w : World} {K : PySem.W.Frag} {mg : Str → Option Value} {base : Heap} {C_Machine : Addr}
theorem eu_sortedT {K : PySem.W.Frag} {σ : L2.St} {H : Hp} {tl : TE} {P : HV} (h : ∀ H1, Ex H H1 → ∀ Q : VK, (∀ (p : Addr) (ns : List Int) (H2 : Hp), Ex H1 H2 → H2 p = some (.lst (ns.map V.int)) → ns.length < 64 → Q (.ref p) H2) → tl σ H1 Q) (hp : ∀ (p : Addr) (xs : List V) (H1 : Hp), Ex H H1 → H1 p = some (.tup xs) → P H1 (.ref p)) :
    EvP (tCB (fun xs H Q => ∃ p ys, xs = [.ref p] ∧ ((SqL K H p ys ∧ ∀ l, H l = none → Q (.ref l) (L2.upd H l (.tup ys))) ∨ (SqT K H p ys ∧ Q (.ref p) H))) (tCons (tCB (rSorted K) (tCons tl tNil)) tNil)) σ H P := fun H1 e Q q =>
  h H1 e _ fun p ns H2 e2 h2 hz => ⟨p, ns, rfl, sq_of h2, hz, fun ns' p2 _ _ hp2 => ⟨p2, _, rfl, .inl ⟨sq_of upd_same, fun l hl => q _ _ ((e2.trans (Ex.new hp2)).trans (Ex.new hl)) (hp l _ _ (e.trans ((e2.trans (Ex.new hp2)).trans (Ex.new hl))) upd_same)⟩⟩⟩
theorem s_fldP {σ : L2.St} {H : Hp} {D : Ends} {te ta : TE} {p C dx : Addr} {fs : List (Str × V)} {f : Str} {P : HV} (hv : EvP te σ H P) (ho : ∀ H1, Ex H H1 → Ev ta σ H1 (.ref p)) (hp : H p = some (.ins C dx fs)) (c : Cls K C) (n : NoAttr K C f) (hz : fs.length < 1000) (hm : ∀ {H H' : Hp} {v : V}, Ex H H' → P H v → P H' v)
    (k : ∀ v H1, Ex H H1 → P H1 v → D.nx σ (upd H1 p (.ins C dx (putF f v fs)))) : sFld K ta te f D σ H :=
  hv H (Ex.refl H) _ fun v H1 e1 h1 => ho H1 e1 H1 (Ex.refl H1) _ fun H2 e2 => ⟨p, C, dx, fs, rfl, (e1.trans e2) _ _ hp, c, n, hz, k v H2 (e1.trans e2) (hm e2 h1)⟩
/-! ### Machine.__init__ -/
def spMi (C : Addr) : Sp := fun vs H Q _ => ∃ (al : List Nat) (v : V) (R : Tbl) (p dx : Addr) (H0 : Hp), vs = [.ref p, tx al, v] ∧ Ex H0 H ∧ H0 p = none ∧ H p = some (.ins C dx []) ∧ RulS R H0 v ∧ Alf al ∧ TblOk al.length R ∧ ∀ H2, Ex H0 H2 → MchAt C H2 p al R → Q .non H2
theorem mi_ok {f : Addr} {fd : FuncData} (F : Fun K "__init__" "Machine.__init__" s_Machine___init__ f fd) (T : Top K mg C_Machine) (h1 : Has P w K mg base "check_alphabet" s_check_alphabet ["alphabet"] 2 spCkAl) (h2 : Has P w K mg base "as_tuples" s_as_tuples ["value"] 5 (spAsP (fun (a : List Rul) H v => LineS a H v ∧ a.length ≤ 1000) LineP))
    (h3 : Has P w K mg base "check_rules" s_check_rules ["alphabet", "rules"] 3 spCr) (h4 : Has P w K mg base "nexts_of" s_nexts_of ["rules"] 1 spNx) (h5 : Has P w K mg base "reached_in" s_reached_in ["nexts"] 2 spRi) : FnOk P w K mg base CX0 6 f fd ["self", "alphabet", "rules"] (spMi C_Machine) := by
  obtain ⟨f1, fd1, _, G_check_alphabet, b_check_alphabet, m_check_alphabet, k_check_alphabet⟩ := h1
  obtain ⟨f2, fd2, _, G_as_tuples, b_as_tuples, m_as_tuples, k_as_tuples⟩ := h2
  obtain ⟨f3, fd3, _, G_check_rules, b_check_rules, m_check_rules, k_check_rules⟩ := h3
  obtain ⟨f4, fd4, _, G_nexts_of, b_nexts_of, m_nexts_of, k_nexts_of⟩ := h4
  obtain ⟨f5, fd5, _, G_reached_in, b_reached_in, m_reached_in, k_reached_in⟩ := h5
  refine F.ok S_Machine___init__ (fun vs H Q E h => ?_) (fun cdv A outer s H vs Q E hr h => ?_)
  · obtain ⟨al, v, R, p, dx, H0, rfl, _⟩ := h
    rfl
  obtain ⟨al, v, R, p, dx, H0, rfl, e0, hp0, hp, hS, hA, ok, q⟩ := h
  refine ⟨_, (pss_cons
    (ps_expr (pe_call G_check_alphabet (hr.mono (by decide)) rfl m_check_alphabet k_check_alphabet b_check_alphabet .nil pass0 (pa_cons (pv 1) pa_nil)))
    (pss_cons
    (ps_set (i := 3) S_Machine___init__.nd rfl (Or.inl rfl) (pe_call G_as_tuples (hr.mono (by decide)) rfl m_as_tuples k_as_tuples b_as_tuples .nil pass0 (pa_cons (pv 2) pa_nil)))
    (pss_cons
    (ps_expr (pe_call G_check_rules (hr.mono (by decide)) rfl m_check_rules k_check_rules b_check_rules .nil pass0 (pa_cons (pv 1) (pa_cons (pv 3) pa_nil))))
    (pss_cons
    (ps_fld (pv 0) (pv 1) rfl)
    (pss_cons
    (ps_fld (pv 0) (pv 3) rfl)
    (pss_cons
    (ps_fld (pv 0) (pe_callB call_len_seq rfl T.z_len PySem.boot_len (pa_cons (pv 3) pa_nil)) rfl)
    (pss_one
    (ps_fld (pv 0) (pe_callTy call_tuple_of rfl T.z_tuple (by decide +kernel) (pa_cons (pe_callB cr_sorted rfl T.z_sorted (by decide +kernel) (pa_cons (pe_call G_reached_in (hr.mono (by decide)) rfl m_reached_in k_reached_in b_reached_in .nil pass0 (pa_cons (pe_call G_nexts_of (hr.mono (by decide)) rfl m_nexts_of k_nexts_of b_nexts_of .nil pass0 (pa_cons (pv 3) pa_nil)) pa_nil)) pa_nil)) pa_nil)) rfl)))))))), ?_⟩
  have hal := hA.six
  have few := ok.few
  have pos := ok.pos
  refine q_drop (ev_call (ea_cons (ev_var rfl) ea_nil) (sv_ckal hA)) fun H1 e1 => ?_
  refine q_callD (vs := [v]) (dvs := []) (ea_cons (ev_var rfl) ea_nil) fun H2 e2 => ⟨R, v, rfl, RulS.mono (e0.trans (e1.trans e2)) hS, by omega, fun v2 H3 e3 h3 => ?_⟩
  obtain ⟨ra, ys, rfl, hra, hL⟩ := h3
  have e13 := (e1.trans e2).trans e3
  refine q_drop (ev_call (ea_cons (ev_var rfl) (ea_cons (ev_var rfl) ea_nil)) (sv_cr hra hL ok (by omega))) fun H4 e4 => ?_
  have e04 := e13.trans e4
  have cl := T.cl_Machine
  have hlen := hL.len
  have w4 : WayM C_Machine H0 p dx ra ys R [] H4 := ⟨e0.trans e04, e04 _ _ hp, e4 _ _ hra, hL.mono line_sol e4⟩
  refine q_fld (ev_var rfl) (ev_var rfl) w4.ins cl T.n_Machine_alphabet (by show 0 < 1000; decide) fun H5 e5 => ?_
  have w5 := (w4.mono e5).put (gs := putF "alphabet" (tx al) []) hp0
  generalize L2.upd H5 p (.ins C_Machine dx (putF "alphabet" (tx al) [])) = G5 at w5 ⊢
  refine q_fld (ev_var rfl) (ev_var rfl) w5.ins cl T.n_Machine_rules (by show 1 < 1000; decide) fun H6 e6 => ?_
  have w6 := (w5.mono e6).put (gs := putF "rules" (.ref ra) (putF "alphabet" (tx al) [])) hp0
  generalize L2.upd H6 p (.ins C_Machine dx (putF "rules" (.ref ra) (putF "alphabet" (tx al) []))) = G6 at w6 ⊢
  refine q_fld (v := .int (R.length : Int)) (ev_is (ev_cb (ea_cons (ev_var rfl) ea_nil) (rc_lenTu w6.row)) (by rw [hlen])) (ev_var rfl) w6.ins cl T.n_Machine_standings (by show 2 < 1000; decide) fun H7 e7 => ?_
  have w7 := (w6.mono e7).put (gs := putF "standings" (.int (R.length : Int)) (putF "rules" (.ref ra) (putF "alphabet" (tx al) []))) hp0
  generalize L2.upd H7 p (.ins C_Machine dx (putF "standings" (.int (R.length : Int)) (putF "rules" (.ref ra) (putF "alphabet" (tx al) [])))) = G7 at w7 ⊢
  have nl7 : (nxts R).length = R.length := by
    unfold nxts
    rw [List.length_map]
  refine s_fldP (P := fun _ v => ∃ r, v = .ref r) (eu_sortedT (fun H8 e8 Q' q' => ?_) fun r xs H8 e8 _ => ⟨r, rfl⟩) (fun H8 e8 => ev_var rfl) w7.ins cl T.n_Machine_reached (by show 3 < 1000; decide) (fun _ h => h) fun v H8 e8 hv => ?_
  · have w8 := w7.mono e8
    refine ev_var (i := 3) rfl H8 (Ex.refl H8) _ fun H9 e9 => ⟨ra, ys, R, rfl, e9 _ _ w8.row, w8.rat.mono line_sol e9, by omega, fun r hr => ?_, fun l zs H10 hl e10 h10 L10 => ?_⟩
    · obtain ⟨i, hi, e⟩ := List.mem_iff_getElem.mp hr
      rw [ok.row i r (by rw [List.getElem?_eq_getElem hi, e])]
      omega
    · refine sl_ri (E := E0) h10 L10 (by omega) (by omega) (fun a ha x hx => ?_) fun os ho p2 H11 hp2 e11 h11 => ?_
      · obtain ⟨row, hrow, rfl⟩ := List.mem_map.mp ha
        obtain ⟨b, hb, rfl⟩ := List.mem_map.mp hx
        obtain ⟨s', hs', es⟩ := List.mem_iff_getElem.mp hrow
        obtain ⟨k, hk, ek⟩ := List.mem_iff_getElem.mp hb
        have hr1 : R[s']? = some row := by rw [List.getElem?_eq_getElem hs', es]
        have hrl := ok.row s' row hr1
        have hlow := ok.low s' k hs' (by omega)
        have eb : rl R s' k = b := by
          unfold rl
          rw [List.getD_eq_getElem?_getD, List.getD_eq_getElem?_getD, hr1]
          show (row[k]?).getD (0, []) = b
          rw [List.getElem?_eq_getElem hk, ek]
          rfl
        rw [eb] at hlow
        exact ⟨b.1, by omega, rfl⟩
      · refine q' p2 (os.map fun k : Nat => (k : Int)) H11 ((e9.trans e10).trans e11) ?_ (by rw [List.length_map]; omega)
        rw [List.map_map]
        exact h11
  · obtain ⟨rc, rfl⟩ := hv
    have w8 := (w7.mono e8).put (gs := mchFs al ra R.length rc) hp0
    exact q _ w8.e ⟨⟨dx, ra, rc, ys, w8.ins, w8.row, w8.rat⟩, hA, ok⟩
theorem has_mi (F : AtI K C_Machine "Machine.__init__" s_Machine___init__) (T : Top K mg C_Machine) (h1 : Has P w K mg base "check_alphabet" s_check_alphabet ["alphabet"] 2 spCkAl) (h2 : Has P w K mg base "as_tuples" s_as_tuples ["value"] 5 (spAsP (fun (a : List Rul) H v => LineS a H v ∧ a.length ≤ 1000) LineP))
    (h3 : Has P w K mg base "check_rules" s_check_rules ["alphabet", "rules"] 3 spCr) (h4 : Has P w K mg base "nexts_of" s_nexts_of ["rules"] 1 spNx) (h5 : Has P w K mg base "reached_in" s_reached_in ["nexts"] 2 spRi) : HasI P w K mg base C_Machine ["self", "alphabet", "rules"] 6 (spMi C_Machine) := by
  obtain ⟨f, fd, F, M⟩ := F.ex
  exact ⟨f, fd, mi_ok F T h1 h2 h3 h4 h5, F.binds fun _ _ _ _ _ _ us hl => match us, hl with | [_, _, _], _ => rfl, M⟩
end
end Ver
namespace Ver
open PySem PySem.Spec PyProof.Rows L2 Evl
section
variable {P : Program} {w : World} {K : PySem.W.Frag} {mg : Str → Option Value} {base : Heap} {C_PressError : Addr} {C_BadAlphabet : Addr} {C_BadLetter : Addr} {C_BadStanding : Addr} {C_BadRule : Addr} {C_AlphabetsDiffer : Addr}
abbrev fs_BadLetter : List V → List (Str × V) := fun us => [("index", us.getD 0 .non)]
abbrev Er_BadLetter (P : Program) (w : World) (K : PySem.W.Frag) (mg : Str → Option Value) (base : Heap) (C : Addr) : Prop := ErrC P w K mg base "BadLetter" C 1 ["self", "index"] fs_BadLetter
theorem he_BadLetter {fI : Addr} {fd : FuncData} (F : Fun K "__init__" "BadLetter.__init__" s_BadLetter___init__ fI fd) (o : OexC K C_BadLetter) (n0 : PySem.W.findIn K (.ref C_BadLetter) "index" = some none) : FnOk P w K mg base CX0 1 fI fd ["self", "index"] (spErr C_BadLetter 1 fs_BadLetter) := by
  refine F.ok S_BadLetter___init__ (fun vs H Q E h => ?_) (fun cdv A outer s H vs Q E hr h => ?_)
  · obtain ⟨a, us, rfl, hl, _⟩ := h
    show us.length + 1 = 2
    omega
  obtain ⟨a, us, rfl, hl, h1, h2⟩ := h
  match us, hl with
  | [u0], _ =>
  refine ⟨_, (pss_one
    (ps_ost (pv 0) (pv 1))), ?_⟩
  refine ⟨_, rfl, _, rfl, a, C_BadLetter, rfl, o, n0, .inl ⟨h1, fun dx hd ne => h2 dx _ hd ne upd_same (by rw [upd_ne ne]; exact upd_same) fun b b1 b2 => by rw [upd_ne b1, upd_ne b2]⟩⟩
abbrev fs_AlphabetsDiffer : List V → List (Str × V) := fun us => [("two", us.getD 1 .non), ("one", us.getD 0 .non)]
abbrev Er_AlphabetsDiffer (P : Program) (w : World) (K : PySem.W.Frag) (mg : Str → Option Value) (base : Heap) (C : Addr) : Prop := ErrC P w K mg base "AlphabetsDiffer" C 2 ["self", "one", "two"] fs_AlphabetsDiffer
theorem he_AlphabetsDiffer {fI : Addr} {fd : FuncData} (F : Fun K "__init__" "AlphabetsDiffer.__init__" s_AlphabetsDiffer___init__ fI fd) (o : OexC K C_AlphabetsDiffer) (n0 : PySem.W.findIn K (.ref C_AlphabetsDiffer) "one" = some none) (n1 : PySem.W.findIn K (.ref C_AlphabetsDiffer) "two" = some none) : FnOk P w K mg base CX0 1 fI fd ["self", "one", "two"] (spErr C_AlphabetsDiffer 2 fs_AlphabetsDiffer) := by
  refine F.ok S_AlphabetsDiffer___init__ (fun vs H Q E h => ?_) (fun cdv A outer s H vs Q E hr h => ?_)
  · obtain ⟨a, us, rfl, hl, _⟩ := h
    show us.length + 1 = 3
    omega
  obtain ⟨a, us, rfl, hl, h1, h2⟩ := h
  match us, hl with
  | [u0, u1], _ =>
  refine ⟨_, (pss_cons
    (ps_ost (pv 0) (pv 1))
    (pss_one
    (ps_ost (pv 0) (pv 2)))), ?_⟩
  refine ⟨_, rfl, _, rfl, a, C_AlphabetsDiffer, rfl, o, n0, .inl ⟨h1, fun dx hd ne => ?_⟩⟩
  exact ⟨_, rfl, _, rfl, a, C_AlphabetsDiffer, rfl, o, n1, .inr ⟨dx, _, upd_same, by rw [upd_ne ne]; exact upd_same, by show 1 ≤ 900; decide, h2 dx _ hd ne (by rw [upd_ne ne.symm]; exact upd_same) upd_same fun b b1 b2 => by rw [upd_ne b2, upd_ne b1, upd_ne b2]⟩⟩
end
end Ver
namespace Ver
open PySem PySem.Spec PyProof.Rows L2 Evl
open PySem.Builtin PySem.Builtin.Str
/-! ### strip, exactly enough -/
def inL (m : List Nat) (c : Nat) : Bool := decide (c ∈ m)
theorem goes_is (m : List Nat) : (SX.S m).cps.contains = inL m := by
  funext c
  unfold inL
  show (m.toArray).contains c = _
  simp
theorem drop_take {p : Nat → Bool} (l : List Nat) : l.drop (l.takeWhile p).length = l.dropWhile p := by
  induction l with
  | nil => rfl
  | cons a r ih =>
    rw [List.takeWhile_cons, List.dropWhile_cons]
    cases p a
    · rfl
    · exact ih
theorem tw_all {p : Nat → Bool} : ∀ (l : List Nat) (c : Nat), c ∈ l.takeWhile p → p c = true
  | [], c, h => by cases h
  | a :: r, c, h => by
    rw [List.takeWhile_cons] at h
    cases q : p a with
    | false =>
      rw [q] at h
      cases h
    | true =>
      rw [q] at h
      rcases List.mem_cons.mp h with rfl | h
      · exact q
      · exact tw_all r c h
theorem dw_head {p : Nat → Bool} : ∀ (l : List Nat) (a : Nat) (r : List Nat), l.dropWhile p = a :: r → p a = false
  | [], a, r, h => by cases h
  | b :: l, a, r, h => by
    rw [List.dropWhile_cons] at h
    cases q : p b with
    | false =>
      rw [q] at h
      cases h
      exact q
    | true =>
      rw [q] at h
      exact dw_head l a r h
theorem strSub_S (l : List Nat) (a b : Nat) : strSub (SX.S l) a b = SX.S ((l.take b).drop a) := by
  unfold strSub
  rw [← SX.S_tl ((⟨(SX.S l).cps.extract a b⟩ : Str))]
  congr 1
  show (l.toArray.extract a b).toList = _
  simp [List.extract_eq_drop_take, List.drop_take]
theorem lstrip_is (l m : List Nat) : Txt.lstripChars (SX.S l) (SX.S m) = SX.S (l.dropWhile (inL m)) := by
  unfold Txt.lstripChars
  rw [goes_is]
  unfold Txt.stripBy stripSame stripped
  have hlo : stripLo (inL m) true (SX.S l) = (l.takeWhile (inL m)).length := by
    unfold stripLo
    rw [if_pos rfl]
  have hhi : ∀ k, stripHi (inL m) false (SX.S l) k = l.length := fun k => by
    unfold stripHi
    rw [if_neg (by decide), SX.S_len]
  rw [hlo, hhi, SX.S_len, strSub_S, List.take_length, drop_take]
  by_cases c : (l.takeWhile (inL m)).length = 0
  · rw [if_pos (by rw [c]; simp)]
    have e := List.takeWhile_append_dropWhile (p := inL m) (l := l)
    rw [List.length_eq_zero_iff.mp c, List.nil_append] at e
    rw [e]
  · rw [if_neg (by simp; intro h; exact absurd (List.length_eq_zero_iff.mpr h) (by simpa using c))]
theorem strip_some {l m : List Nat} (h : ∃ c ∈ l, c ∉ m) : Txt.stripChars (SX.S l) (SX.S m) ≠ SX.S [] := by
  obtain ⟨c, hc, hm⟩ := h
  unfold Txt.stripChars
  rw [goes_is]
  unfold Txt.stripBy stripSame stripped
  have hlo : stripLo (inL m) true (SX.S l) = (l.takeWhile (inL m)).length := by
    unfold stripLo
    rw [if_pos rfl]
  rw [hlo]
  have e := List.takeWhile_append_dropWhile (p := inL m) (l := l)
  have hd : ∃ a r, l.dropWhile (inL m) = a :: r ∧ inL m a = false := by
    cases hq : l.dropWhile (inL m) with
    | nil =>
      rw [hq, List.append_nil] at e
      have : c ∈ l.takeWhile (inL m) := by rw [e]; exact hc
      exact absurd (of_decide_eq_true (tw_all l c this)) hm
    | cons a r =>
      refine ⟨a, r, rfl, ?_⟩
      exact dw_head l a r hq
  obtain ⟨a, r, hq, ha⟩ := hd
  have hlen : (l.takeWhile (inL m)).length + (r.length + 1) = l.length := by
    have := congrArg List.length e
    rw [List.length_append, hq, List.length_cons] at this
    omega
  have hhi : stripHi (inL m) true (SX.S l) (l.takeWhile (inL m)).length = l.length - ((a :: r).reverse.takeWhile (inL m)).length := by
    unfold stripHi
    rw [if_pos rfl, SX.S_len]
    show l.length - ((l.drop _).reverse.takeWhile _).length = _
    rw [drop_take, hq]
  have hlt : ((a :: r).reverse.takeWhile (inL m)).length ≤ r.length := by
    rw [List.reverse_cons, List.takeWhile_append]
    split
    · rw [List.takeWhile_cons, if_neg (by rw [ha]; decide), List.append_nil, List.length_reverse]
      exact Nat.le_refl _
    · have := (List.takeWhile_sublist (p := inL m) (l := r.reverse)).length_le
      rw [List.length_reverse] at this
      exact this
  rw [hhi]
  split
  · intro z
    have z2 := SX.S_inj z
    rw [z2] at hc
    cases hc
  · rw [strSub_S]
    intro z
    have z2 := congrArg List.length (SX.S_inj z)
    rw [List.length_drop, List.length_take, List.length_nil] at z2
    omega
theorem asc_of : ∀ l : List Nat, (∀ i, i + 1 < l.length → l.getD i 0 < l.getD (i + 1) 0) → l.Pairwise (· < ·)
  | [], _ => .nil
  | [a], _ => by simp
  | a :: b :: r, h => by
    have ih := asc_of (b :: r) fun i hi => h (i + 1) (by simpa using hi)
    have h0 : a < b := h 0 (by simp)
    refine .cons (fun c hc => ?_) ih
    rcases List.mem_cons.mp hc with rfl | hc
    · exact h0
    · exact Nat.lt_trans h0 ((List.pairwise_cons.mp ih).1 c hc)
/-- the first letter that is none of al stands at k -/
def bad1 (al v : List Nat) (k : Nat) : Prop := k = (v.takeWhile (inL al)).length ∧ k < v.length
theorem bad1_rest {al v : List Nat} {k : Nat} (h : bad1 al v k) : (v.dropWhile (inL al)).length = v.length - k ∧ v.dropWhile (inL al) ≠ [] := by
  obtain ⟨rfl, hk⟩ := h
  have e := List.takeWhile_append_dropWhile (p := inL al) (l := v)
  have := congrArg List.length e
  rw [List.length_append] at this
  refine ⟨by omega, fun z => ?_⟩
  rw [z] at this
  simp at this
  omega
theorem bad1_mk {al a b : List Nat} {c : Nat} (ha : ∀ x ∈ a, x ∈ al) (hc : c ∉ al) : bad1 al (a ++ c :: b) a.length := by
  have : (a ++ c :: b).takeWhile (inL al) = a := by
    rw [List.takeWhile_append_of_pos (p := inL al) fun x hx => decide_eq_true (ha x hx), List.takeWhile_cons, if_neg (by unfold inL; simpa using hc), List.append_nil]
  exact ⟨by rw [this], by simp⟩
end Ver
namespace Ver
open PySem PySem.Spec PyProof.Rows L2 Evl
theorem lets_let {c : Nat} (h : c ∈ lets) : (48 ≤ c ∧ c ≤ 57) ∨ (97 ≤ c ∧ c ≤ 122) := by
  have k : ∀ d ∈ lets, (48 ≤ d ∧ d ≤ 57) ∨ (97 ≤ d ∧ d ≤ 122) := by decide +kernel
  exact k c h
section
variable {P : Program} {w : World} {K : PySem.W.Frag} {mg : Str → Option Value} {base : Heap} {C_Machine : Addr} {C_PressError : Addr} {C_BadAlphabet : Addr} {C_BadLetter : Addr} {C_BadStanding : Addr} {C_BadRule : Addr} {C_AlphabetsDiffer : Addr}
/-! ### what is no alphabet -/
def spIsAlB : Sp := fun vs H Q _ => ∃ al : List Nat, vs = [tx al] ∧ ¬ Alf al ∧ al.length ≤ 40000 ∧ RetV (.bl false) H Q
theorem has_isalB (F : At K mg "is_alphabet" s_is_alphabet) (T : Top K mg C_Machine) : Has P w K mg base "is_alphabet" s_is_alphabet ["string"] 1 spIsAlB := by
  obtain ⟨f, fd, F, m⟩ := F.ex
  obtain ⟨tL, g_LETTERS⟩ := T.g_LETTERS
  obtain ⟨tM, g_MOST_LETTERS⟩ := T.g_MOST_LETTERS
  refine ⟨f, fd, F, F.ok S_is_alphabet (fun vs H Q E h => ?_) (fun cdv A outer s H vs Q E hr h => ?_), F.binds fun _ _ _ _ _ _ us hl => match us, hl with | [_], _ => rfl, m, F.kp⟩
  · obtain ⟨al, rfl, _⟩ := h
    rfl
  obtain ⟨al, rfl, hA, hz, q⟩ := h
  refine ⟨_, (pss_cons
    (ps_if (PW.pt (pw_or (pt_cmpR op_lt (pe_callB call_len_str rfl T.z_len PySem.boot_len (pa_cons (pv 0) pa_nil)) pe_int (nomark _)) (pw_or1 (pt_cmpR op_gt (pe_callB call_len_str rfl T.z_len PySem.boot_len (pa_cons (pv 0) pa_nil)) (pe_glob (v := .int 6) rfl g_MOST_LETTERS ⟨_, rfl⟩) (nomark _))))) (pss_one
    (ps_ret pe_bl)) pss_nil)
    (pss_cons
    (ps_if (pt_cmpR op_ne (pe_bm PySem.F.plainAttrs_str PySem.F.slot_str_strip PySem.F.type_str_strip mt_stripChars (pv 0) (pa_cons (pe_glob (v := .str (Str.ofString "0123456789abcdefghijklmnopqrstuvwxyz")) rfl g_LETTERS ⟨_, rfl⟩) pa_nil)) pe_str (nomark _)) (pss_one
    (ps_ret pe_bl)) pss_nil)
    (pss_one
    (ps_ret (pe_callB (cr_all rfl) rfl T.z_all (by decide +kernel) (pa_cons (pe_lc (own := [("one", 1), ("two", 2)]) (g := gTup K 2 (gCons (gName 1) (gCons (gName 2) gNil))) (tt := tYes) rfl S_is_alphabet.nd (pi_zipS rfl T.z_zip (pa_cons (pv 0) (pa_cons (pe_slice sl_str (pv 0) (po_some pe_int) po_none) pa_nil))) (blkOk_by (N := N_is_alphabet) (sc := defScope s_is_alphabet) (by decide +kernel)) (fun _ _ _ _ _ => pg_tup rfl (pgs_cons (pg_name (i := 1) S_is_alphabet.nd rfl (Or.inl rfl)) (pgs_cons (pg_name (i := 2) S_is_alphabet.nd rfl (Or.inl rfl)) pgs_nil))) (fun _ _ _ _ _ => pts_nil) (fun _ _ _ _ _ => (pe_cmpR op_lt_str (pv 1) (pv 2) (nomark _)))) pa_nil)))))), ?_⟩
  refine q_when (et_or (et_lt (ev_lenS (by omega) (ev_var rfl)) ev_c) (fun _ => et_gt (ev_lenS (by omega) (ev_var rfl)) ev_c)) (fun hb H1 e1 => ?_) (fun hb H1 e1 => ?_)
  · exact s_ret ev_c fun H2 e2 => q H2 (e1.trans e2)
  have hl : 1 ≤ al.length ∧ al.length ≤ 6 := by
    rw [Bool.or_eq_false_iff] at hb
    have h1 := of_decide_eq_false hb.1
    have h2 := of_decide_eq_false hb.2
    omega
  by_cases c : ∃ c ∈ al, c ∉ lets
  · have hst := strip_some c
    rw [← lets_is] at hst
    refine q_take (et_is (et_test (ev_op (ev_bm (z := .str (Txt.stripChars (SX.S al) (Str.ofString "0123456789abcdefghijklmnopqrstuvwxyz"))) (ev_var rfl) (fun _ _ => rfl) (ea_cons ev_c ea_nil) fun H2 _ Q' q' => ⟨SX.S al, _, rfl, rfl, by rw [SX.S_len]; exact sz_of (by omega), q' H2 (Ex.refl H2)⟩) ev_c (rv_ne rfl))) (by
      rw [nil_is, decide_eq_false fun z => hst (V.str.inj z)]
      rfl)) fun H2 e2 => s_ret ev_c fun H3 e3 => q H3 ((e1.trans e2).trans e3)
  · have hin : ∀ c ∈ al, c ∈ lets := fun x hx => Classical.byContradiction fun hn => c ⟨x, hx, hn⟩
    have hst : Txt.stripChars (SX.S al) (Str.ofString "0123456789abcdefghijklmnopqrstuvwxyz") = SX.S [] := by
      rw [lets_is]
      exact strip_chars hin
    refine q_skip (et_is (et_test (ev_op (ev_bm (z := tx []) (ev_var rfl) (fun _ _ => rfl) (ea_cons ev_c ea_nil) fun H2 _ Q' q' => ⟨SX.S al, _, rfl, rfl, by rw [SX.S_len]; exact sz_of (by omega), by rw [hst]; exact q' H2 (Ex.refl H2)⟩) ev_c (rv_ne rfl))) (by rw [nil_is]; simp)) fun H2 e2 => ?_
    refine s_ret (ev_is (ev_allN (bs := (List.range (min al.length (al.drop 1).length)).map fun i => decide (al.getD i 0 < (al.drop 1).getD i 0)) ?_) ?_) fun H3 e3 => q H3 ((e1.trans e2).trans e3)
    · have g := el_lcZ (K := K) (σ := [some (tx al), none, none]) (H := H2) (x := al) (y := al.drop 1) (tp := tCons (tVar 0) (tCons (tSl rSlS (tVar 0) (tPart (tC (.int 1))) tNoPart) tNil)) (j1 := 1) (j2 := 2) (vs := [1, 2]) (te := tOp (fun x y H Q => ∃ i j : Str, x = .str i ∧ y = .str j ∧ Q (.bl (decide (i.cps.toList < j.cps.toList))) H) (tVar 1) (tVar 2))
        (fun i => V.bl (decide (al.getD i 0 < (al.drop 1).getD i 0)))
        (ea_cons (ev_var rfl) (ea_cons (ev_is (ev_slS (by omega) (ev_var rfl) (eo_some (i := ((1 : Nat) : Int)) ev_c) eo_none) (by rw [cutL_from])) ea_nil)) (by omega) (fun a b => rfl) (fun i c d H3 e3 hc hd => ?_)
      · rw [List.map_map]
        exact g
      · have ec : al.getD i 0 = c := by
          rw [List.getD_eq_getElem?_getD, hc]
          rfl
        have ed : (al.drop 1).getD i 0 = d := by
          rw [List.getD_eq_getElem?_getD, hd]
          rfl
        rw [ec, ed]
        refine ev_is (ev_op (ev_var rfl) (ev_var rfl) rv_ltS) ?_
        congr 1
        refine decide_eq_decide.mpr ?_
        constructor
        · intro h
          cases h with
          | rel h => exact h
          | cons h => cases h
        · exact fun h => List.Lex.rel h
    · congr 1
      refine Bool.eq_false_iff.mpr fun hall => hA ⟨asc_of al fun i hi => ?_, hl.1, hl.2, fun c hc => lets_let (hin c hc)⟩
      rw [List.all_eq_true] at hall
      have hd : (al.drop 1).length = al.length - 1 := List.length_drop
      have := hall _ (List.mem_map.mpr ⟨i, List.mem_range.mpr (by omega), rfl⟩)
      have := of_decide_eq_true (show decide (al.getD i 0 < (al.drop 1).getD i 0) = true from this)
      rw [List.getD_eq_getElem?_getD (l := al.drop 1), List.getElem?_drop, Nat.add_comm 1 i, ← List.getD_eq_getElem?_getD] at this
      exact this
/-! ### check_alphabet, check_text that raise -/
def HasX (P : Program) (w : World) (K : PySem.W.Frag) (mg : Str → Option Value) (base : Heap) (x : Str) (st : Stmt) (ps : List Str) (k : Nat) (sp : Sp) : Prop :=
  ∃ f fd, Fun K x x st f fd ∧ FnOk P w K mg base (L2.CX P w) k f fd ps sp ∧ L2.Binds K fd ps [] ∧ mg x = some (.ref f) ∧ PySem.W.keepIn K (.ref f) = true
/-- both at once -/
theorem has_both {x : Str} {st : Stmt} {ps : List Str} {k j : Nat} {sp sp' : Sp} (h1 : Has P w K mg base x st ps j sp) (h2 : HasX P w K mg base x st ps k sp') (hk : j ≤ k) : HasX P w K mg base x st ps k (fun vs H Q E => sp vs H Q E ∨ sp' vs H Q E) := by
  obtain ⟨f, fd, F, G, b, m, kp⟩ := h2
  obtain ⟨f1, fd1, F1, G1, b1, m1, k1⟩ := h1
  have ef : f1 = f := by
    have := m1.symm.trans m
    cases this
    rfl
  subst ef
  obtain ⟨oc, od, kV, doc, pm, an, cdv, ct, osl, rfl, lk, hcd⟩ := F.ex
  obtain ⟨oc', od', kV', doc', pm', an', cdv', ct', osl', rfl, lk', hcd'⟩ := F1.ex
  have := lk.symm.trans lk'
  cases this
  exact ⟨f1, _, F, FnOk.both (FnOk.up (G1.mono hk)) G, b, m, kp⟩
def spCkTxB (C : Addr) : Sp := fun vs H Q E => ∃ (al v : List Nat) (k : Nat), vs = [tx al, tx v] ∧ bad1 al v k ∧ v.length ≤ 100000 ∧ RetE C [("index", .int (k : Int))] H E
theorem has_cktxB (F : At K mg "check_text" s_check_text) (T : Top K mg C_Machine) (GE_BadLetter : Er_BadLetter P w K mg base C_BadLetter) : HasX P w K mg base "check_text" s_check_text ["alphabet", "text"] 3 (spCkTxB C_BadLetter) := by
  obtain ⟨f, fd, F, m⟩ := F.ex
  refine ⟨f, fd, F, F.okX S_check_text (fun vs H Q E h => ?_) (fun cdv A outer s H vs Q E hr h => ?_), F.binds fun _ _ _ _ _ _ us hl => match us, hl with | [_, _], _ => rfl, m, F.kp⟩
  · obtain ⟨al, v, k, rfl, _⟩ := h
    rfl
  obtain ⟨al, v, k, rfl, hb, hz, q⟩ := h
  obtain ⟨r1, r2⟩ := bad1_rest hb
  have hk := hb.2
  refine ⟨_, (pss_cons
    (ps_set (i := 2) S_check_text.nd rfl (Or.inl rfl) (pe_bm PySem.F.plainAttrs_str PySem.F.slot_str_lstrip PySem.F.type_str_lstrip mt_lstripChars (pv 1) (pa_cons (pv 0) pa_nil)))
    (pss_one
    (ps_if (pt_cmpR op_ne (pv 2) pe_str (nomark _)) (pss_one
    (ps_raiseE rfl GE_BadLetter (hr.mono (by decide)) (takes_of rfl rfl rfl rfl) (pa_cons (pe_op op_sub (pe_callB call_len_str rfl T.z_len PySem.boot_len (pa_cons (pv 1) pa_nil)) (pe_callB call_len_str rfl T.z_len PySem.boot_len (pa_cons (pv 2) pa_nil))) pa_nil) rfl)) pss_nil))), ?_⟩
  refine q_asg (v := tx (v.dropWhile (inL al))) (ev_bm (ev_var rfl) (fun _ _ => rfl) (ea_cons (ev_var rfl) ea_nil) fun H2 _ Q' q' => ⟨SX.S v, SX.S al, rfl, rfl, by rw [SX.S_len]; exact sz_of hz, by rw [lstrip_is]; exact q' H2 (Ex.refl H2)⟩) fun H1 e1 => ?_
  refine s_when (et_is (et_test (ev_op (ev_var rfl) ev_c (rv_ne rfl))) (b := true) (by rw [nil_is, tx_dec, decide_eq_false r2]; rfl)) (fun hb H2 e2 => ?_) (fun hb H2 e2 => nomatch hb)
  exact s_raiseR (vs := [.int (k : Int)]) (ea_cons (ev_is (ev_sub (ev_lenS (by omega) (ev_var rfl)) (ev_lenS (by omega) (ev_var rfl))) (by rw [r1]; congr 1; omega)) ea_nil) rfl (by decide) (e1.trans e2) q
end
end Ver
namespace Ver
open PySem PySem.Spec PyProof.Rows L2 Evl
/-! ### methods with keyword-only defaults, static methods -/
structure KwF (K : PySem.W.Frag) (fd : FuncData) (kws : List (Str × V)) : Prop where
  ex : ∃ D : Addr, fd.kwdefaults = .ref D ∧ ∀ q ∈ kws, ∃ u, PySem.W.nsIn K D q.1 = some (some u) ∧ RelV q.2 u
theorem Fun.toD {K : PySem.W.Frag} {x qual : Str} {st : Stmt} {f : Addr} {fd : FuncData} {kws : List (Str × V)} (F : Fun K x qual st f fd) (k : KwF K fd kws) : FunD K x qual (defArgs st) (defBody st) (defScope st) [] kws f fd := by
  obtain ⟨oc, od, kV, doc, pm, an, cdv, ct, osl, rfl, lk, hcd⟩ := F.ex
  obtain ⟨D, h1, h2⟩ := k.ex
  exact ⟨⟨oc, od, .none, kV, doc, pm, an, cdv, ct, osl, rfl, lk, hcd, .inl ⟨rfl, rfl⟩, .inr ⟨D, h1, h2⟩⟩, F.kp⟩
structure AtMK (K : PySem.W.Frag) (C : Addr) (m q : Str) (st : Stmt) (kws : List (Str × V)) : Prop where
  ex : ∃ f fd, Fun K m q st f fd ∧ Meth K C m f ∧ KwF K fd kws
structure AtS (K : PySem.W.Frag) (C : Addr) (m q : Str) (st : Stmt) : Prop where
  ex : ∃ f fd, Fun K m q st f fd ∧ SMet K C (.type "type") m f
/-- a method that may raise, its last parameter by name or by default -/
def HasMX (P : Program) (w : World) (K : PySem.W.Frag) (mg : Str → Option Value) (base : Heap) (C : Addr) (m : Str) (ps : List Str) (k n : Nat) (ks : List Str) (dvs : List V) (sp : Sp) : Prop :=
  ∃ f fd ds, FnOk P w K mg base (L2.CX P w) k f fd ps sp ∧ Meth K C m f ∧ Vals dvs ds ∧ L2.Binds K fd ps ds ∧ KBn K fd ps n ks (fun us ws => us ++ ws) (fun vs zs => vs ++ zs)
def HasS (P : Program) (w : World) (K : PySem.W.Frag) (mg : Str → Option Value) (base : Heap) (C : Addr) (m : Str) (ps : List Str) (k : Nat) (sp : Sp) : Prop :=
  ∃ f fd, FnOk P w K mg base CX0 k f fd ps sp ∧ SMet K C (.type "type") m f ∧ L2.Binds K fd ps []
section
variable {K : PySem.W.Frag} {σ : L2.St} {H : Hp} {D : Ends} {tz : TS}
/-- x = o.m(..) that may raise -/
theorem s_methX {C a dx : Addr} {fs : List (Str × V)} {m : Str} {sp : Sp} {dvs vs : List V} {E : L2.St → XK} {ta : TE} {t : TA} {i : Nat} (ha : Ev ta σ H (.ref a)) (hi : H a = some (.ins C dx fs)) (hl : fs.lookup m = none) (ht : EvA t σ H vs)
    (k : ∀ H1, Ex H H1 → sp (.ref a :: (vs ++ dvs)) H1 (fun v H2 => D.nx (σ.set i (some v)) H2) (E σ)) : tAsg (tMethX C m sp dvs E ta t) (gName i) D σ H :=
  ha H (Ex.refl H) _ fun H1 e1 => ⟨a, dx, fs, rfl, e1 _ _ hi, hl, ht H1 e1 _ fun H2 e2 => k H2 (e1.trans e2)⟩
theorem q_methX {C a dx : Addr} {fs : List (Str × V)} {m : Str} {sp : Sp} {dvs vs : List V} {E : L2.St → XK} {ta : TE} {t : TA} {i : Nat} (ha : Ev ta σ H (.ref a)) (hi : H a = some (.ins C dx fs)) (hl : fs.lookup m = none) (ht : EvA t σ H vs)
    (k : ∀ H1, Ex H H1 → sp (.ref a :: (vs ++ dvs)) H1 (fun v H2 => tz D (σ.set i (some v)) H2) (E σ)) : tSeq (tAsg (tMethX C m sp dvs E ta t) (gName i)) tz D σ H := s_methX (D := { D with nx := tz D }) ha hi hl ht k
/-- x, y = o.m(.., k = v) that may raise -/
theorem q_methNX {C a dx : Addr} {fs : List (Str × V)} {m : Str} {n j : Nat} {sp : Sp} {gV : List V → List V → List V} {vs zs : List V} {E : L2.St → XK} {ta : TE} {t tk : TA} {j1 j2 : Nat} (ha : Ev ta σ H (.ref a)) (hi : H a = some (.ins C dx fs)) (hl : fs.lookup m = none) (ht : EvA t σ H vs) (hk : EvA tk σ H zs) (hn : vs.length + 1 = n) (hj : zs.length = j)
    (k : ∀ H1, Ex H H1 → sp (gV (.ref a :: vs) zs) H1 (fun v H2 => gPair K j1 j2 v σ H2 fun σ2 H3 => tz D σ2 H3) (E σ)) :
    tSeq (tAsg (tMethNX C m n j sp gV E ta t tk) (gPair K j1 j2)) tz D σ H :=
  ha H (Ex.refl H) _ fun H1 e1 => ⟨a, dx, fs, rfl, e1 _ _ hi, hl, ht H1 e1 _ fun H2 e2 => hk H2 (e1.trans e2) _ fun H3 e3 => ⟨hn, hj, k H3 ((e1.trans e2).trans e3)⟩⟩
theorem gp_of {r : Addr} {a b : V} {j1 j2 : Nat} {Q : L2.St → Hp → Prop} (hr : H r = some (.tup [a, b])) (q : Q ((σ.set j1 (some a)).set j2 (some b)) H) : gPair K j1 j2 (.ref r) σ H Q := ⟨r, [a, b], rfl, st_of hr, rfl, a, [b], rfl, b, [], rfl, rfl, q⟩
end
/-! ### name = {k: v for ..} on one line, the name a local -/
section
variable {X : Cx}
theorem ps_setDc {i : Nat} {y : Str} {py : Pos} {kx vx tg iter : Expr} {ifs : List Expr} {scope : Scope} {own : List (Str × Nat)} {pos spos : Pos} {wi : TI} {g : TG} {tt : TT} {tk tv : TE} (hc : X.calm = true) (hN : X.N.Nodup) (hy : X.N[i]? = some y) (hyl : X.env.scope.names.lookup y = some .local)
    (hsw : swapsWith (.DictComp kx vx [⟨tg, iter, ifs, 0⟩] scope pos) (some (.Name y py)) spos.line X.env = pure true) (hi : PI X tg iter wi) (ok : BlkOk X.N X.env.scope scope own)
    (hg : ∀ (s : Shared) (H : Hp) (C : Addr) (cl : List (Str × Addr)) (fp : List Addr), PG (X.blk s H scope (compEnvC scope cl C X.env) fp) tg g) (ht : ∀ (s : Shared) (H : Hp) (C : Addr) (cl : List (Str × Addr)) (fp : List Addr), PTs (X.blk s H scope (compEnvC scope cl C X.env) fp) ifs tt)
    (hk : ∀ (s : Shared) (H : Hp) (C : Addr) (cl : List (Str × Addr)) (fp : List Addr), PE (X.blk s H scope (compEnvC scope cl C X.env) fp) kx tk)
    (he : ∀ (s : Shared) (H : Hp) (C : Addr) (cl : List (Str × Addr)) (fp : List Addr), PE (X.blk s H scope (compEnvC scope cl C X.env) fp) vx tv) (hs : ∀ x, foldedSetIterable iter X.env x = pure x := by intro _; rfl) :
    PS X (.Assign [.Name y py] (.DictComp kx vx [⟨tg, iter, ifs, 0⟩] scope pos) spos) (tAsg (tDc wi g tt tk tv (own.map (·.2))) (gName i)) := by
  refine ⟨fun pins s σ H D I h => ?_⟩
  rw [exec_Assign_Name_used _ _ _ _ hsw]
  refine wpAny_bind (wpAny_standAt (wpAny_bind ?_))
  show wpAny _ X.A (do let _ ← comprehension (.DictComp kx vx [⟨tg, iter, ifs, 0⟩] scope pos) scope X.env (firstIterPos [⟨tg, iter, ifs, 0⟩] pos) newDict false (eval iter X.env) (some (assign (.Name y py) X.env))) _ _ s
  have h : tDc wi g tt tk tv (own.map (·.2)) σ H (fun x H1 => gName i x σ H1 D.nx) := h
  refine wpAny_bind (thn (dc_core (Qf := fun _ s' => SP X pins D .next s') hc hN I hi ok hg ht hk he hs h fun L C s' m H' I' q hn f => ?_) fun _ s' hq => wpAny_pure (wpAny_pure hq))
  show wpAny _ _ (assign (.Name y py) X.env (.ref L)) _ _ _
  refine wpAny_assign_Name (store_ok2 (v := V.ref L) I' hN hy (.inl hyl) rfl (fun s2 I2 ⟨a, sb, ha⟩ => ?_) (.inr hyl))
  obtain ⟨f0, f1, f2, f3, f4, f5⟩ := f
  have haC : C ≠ a := by
    rcases ha with z | z
    · rw [z]; exact f1
    · exact fun e => f4 y a z e.symm
  refine ⟨m, hn.sameBut sb haC, fun h3 sb3 => ?_⟩
  exact ⟨_, H', I2.turned (t' := s2.toks) (fun b o hb e => (sb3.2 b hb).trans e) f0 f1 f3 f4 f5, q⟩
theorem sw_trueD {kx vx : Expr} {gs : List Comprehension} {scope : Scope} {pos py : Pos} {y : Str} {l : Nat} {env : Env} (hk : env.scope.kind = .function) (hy : env.scope.names.lookup y = some .local) (hl : (py.line == pos.line) = true)
    (ha : (scope.names.any fun (n, k) => n == y && (k == .local || k == .cell)) = false) : swapsWith (.DictComp kx vx gs scope pos) (some (.Name y py)) l env = pure true := by
  have ky : env.kindOf y = some .local := hy
  have hb : env.blockKind = .function := by unfold Env.blockKind; rw [hk]; rfl
  unfold swapsWith
  simp only [hb, ky, ha, Expr.pos, hl]
  rfl
end
end Ver
namespace Ver
open PySem PySem.Spec PyProof.Rows L2 Evl
section
variable {P : Program} {w : World} {K : PySem.W.Frag} {mg : Str → Option Value} {base : Heap} {C_Machine : Addr} {C_PressError : Addr} {C_BadAlphabet : Addr} {C_BadLetter : Addr} {C_BadStanding : Addr} {C_BadRule : Addr} {C_AlphabetsDiffer : Addr}
theorem take_at {l : List Nat} {i c : Nat} (h : l[i]? = some c) : l.take (i + 1) = l.take i ++ [c] := take_snoc h
/-! ### written_by -/
def spWb : Sp := fun vs H Q _ => ∃ (ra : Addr) (xs : List V) (al v : List Nat) (R : Tbl) (s : Nat), vs = [.ref ra, tx al, tx v, .int (s : Int)] ∧ H ra = some (.tup xs) ∧ LsP LineP H xs R ∧ TblOk al.length R ∧ al.Nodup ∧ al.length ≤ 1000 ∧ (∀ c ∈ v, c ∈ al) ∧ v.length ≤ 1000 ∧ s < R.length ∧ RetU [tx (out R al s v), .int (fin R al s v : Int)] H Q
theorem has_wb (F : At K mg "written_by" s_written_by) (T : Top K mg C_Machine) : Has P w K mg base "written_by" s_written_by ["rules", "alphabet", "text", "start"] 1 spWb := by
  obtain ⟨f, fd, F, m⟩ := F.ex
  refine ⟨f, fd, F, F.ok S_written_by (fun vs H Q E h => ?_) (fun cdv A outer s H vs Q E hr h => ?_), F.binds fun _ _ _ _ _ _ us hl => match us, hl with | [_, _, _, _], _ => rfl, m, F.kp⟩
  · obtain ⟨ra, xs, al, v, R, s, rfl, _⟩ := h
    rfl
  obtain ⟨ra, xs, al, v, R, s, rfl, hra, hL, ok, nd, hal, hv, hz, hs, q⟩ := h
  refine ⟨_, (pss_cons
    (ps_setDc (i := 5) (own := [("place", 9), ("letter", 4)]) (g := gTup K 2 (gCons (gName 9) (gCons (gName 4) gNil))) (tt := tYes) rfl S_written_by.nd rfl rfl (sw_trueD rfl rfl rfl (by decide +kernel)) (pi_enumS rfl T.z_enumerate (pa_cons (pv 1) pa_nil)) (blkOk_by (N := N_written_by) (sc := defScope s_written_by) (by decide +kernel)) (fun _ _ _ _ _ => pg_tup rfl (pgs_cons (pg_name (i := 9) S_written_by.nd rfl (Or.inl rfl)) (pgs_cons (pg_name (i := 4) S_written_by.nd rfl (Or.inl rfl)) pgs_nil))) (fun _ _ _ _ _ => pts_nil) (fun _ _ _ _ _ => (pv 4)) (fun _ _ _ _ _ => (pv 9)))
    (pss_cons
    (ps_set (i := 6) S_written_by.nd rfl (Or.inl rfl) (pe_lst pa_nil))
    (pss_cons
    (ps_set (i := 7) S_written_by.nd rfl (Or.inl rfl) (pv 3))
    (pss_cons
    (ps_for PassesOwn.never rfl (pi_str (pv 2)) (pg_name (i := 4) S_written_by.nd rfl (Or.inl rfl)) (pss_cons
    (ps_asg (pe_ix (r := rIxT K) ix_tup (pe_ix (r := rIxT K) ix_tup (pv 0) (pv 7) (fun _ _ => rfl)) (pe_dget (hu_of hr) (pv 5) (pv 4) (fun _ _ => rfl)) (fun _ _ => rfl)) (pg_tup rfl (pgs_cons (pg_name (i := 7) S_written_by.nd rfl (Or.inl rfl)) (pgs_cons (pg_name (i := 8) S_written_by.nd rfl (Or.inl rfl)) pgs_nil))))
    (pss_one
    (ps_expr (pe_bm PySem.F.plainAttrs_list PySem.F.slot_list_append PySem.F.type_list_append mt_append (pv 6) (pa_cons (pv 8) pa_nil))))))
    (pss_one
    (ps_ret (pe_tup (pa_cons (pe_join pe_str (pv 6)) (pa_cons (pv 7) pa_nil))))))))), ?_⟩
  refine ev_places (l := al) (ev_var rfl) hal (fun a b => rfl) (fun a b => rfl) (fun a b => rfl) fun d H1 hd e1 h1 => ?_
  refine q_asgL (xs := []) (el_lst ea_nil (by decide)) fun l H2 hl e2 h2 => ?_
  refine q_asg (v := .int (s : Int)) (ev_var rfl) fun H3 e3 => ?_
  have e13 := (e1.trans e2).trans e3
  have hl0 : H l = none := fresh_back e1 hl
  have ndl : d ≠ l := ne_of (e3 _ _ (e2 _ _ h1)) (e3 _ _ h2) (by intro z; cases z)
  have inT : ∀ {i c : Nat}, v[i]? = some c → (∀ x ∈ v.take i, x ∈ al) ∧ c ∈ al := fun {i c} h => ⟨fun x hx => hv x (List.mem_of_mem_take hx), hv c (List.mem_of_getElem? h)⟩
  refine q_forS (z := SX.S v) (ev_var rfl) (fun i σ' H' => (∃ u4 u8, σ' = [some (.ref ra), some (tx al), some (tx v), some (.int (s : Int)), u4, some (.ref d), some (.ref l), some (.int (fin R al s (v.take i) : Int)), u8, none]) ∧ Ex H H' ∧ H' d = some (.dK (plcN al al.length)) ∧ ∃ ws : List (List Nat), H' l = some (.lst (ws.map tx)) ∧ ws.flatten = out R al s (v.take i) ∧ ws.length = i) ?_ ?_ ?_
  · intro H4 e4
    exact ⟨⟨none, none, rfl⟩, e13.trans e4, e4 _ _ (e3 _ _ (e2 _ _ h1)), [], e4 _ _ (e3 _ _ h2), rfl, rfl⟩
  · rintro i c σ' H' hc ⟨⟨u4, u8, rfl⟩, e4, h4, ws, h5, h6, h7⟩
    have hc2 : v[i]? = some c := hc
    obtain ⟨hv1, hcal⟩ := inT hc2
    have hi := (List.getElem?_eq_some_iff.mp hc2).1
    have hs2 := fin_lt ok (v.take i) s hs hv1
    obtain ⟨hat, hix⟩ := ixf_at hcal
    obtain ⟨r, hr1, hr2⟩ := ev_rule (K := K) (σ := [some (.ref ra), some (tx al), some (tx v), some (.int (s : Int)), some (tx [c]), some (.ref d), some (.ref l), some (.int (fin R al s (v.take i) : Int)), u8, none]) (ta := tVar 0) (tb := tVar 7) (tc := tDGet (tVar 5) (tVar 4)) ok (e4 _ _ hra) (hL.mono line_sol e4) hs2 hix (ev_var rfl) (ev_var rfl) (ev_dget (ev_var rfl) (ev_var rfl) fun H5 e5 => by
      have g := DGet.k (k := Sum.inr (SX.S [c])) (e5 _ _ h4)
      have hp := plcN_at nd al.length (ixf al c) hix (Nat.le_refl _)
      have ec : al.getD (ixf al c) 0 = c := by
        rw [List.getD_eq_getElem?_getD, hat]
        rfl
      rw [ec] at hp
      rw [hp] at g
      exact g)
    refine q_unp hr2 hr1 fun H5 e5 => ?_
    refine s_app (e5 _ _ h5) (ev_var rfl) (ev_var rfl) (by rw [List.length_map]; omega) fun H6 e6 => ?_
    have et := take_at hc2
    refine ⟨⟨some (tx [c]), some (tx (rl R (fin R al s (v.take i)) (ixf al c)).2), ?_⟩, ((e4.trans e5).trans e6).mut hl0, ?_, ws ++ [(rl R (fin R al s (v.take i)) (ixf al c)).2], ?_, ?_, ?_⟩
    · rw [et, fin_app]
      rfl
    · rw [upd_ne ndl]
      exact e6 _ _ (e5 _ _ h4)
    · rw [List.map_append]
      exact upd_same
    · rw [List.flatten_append, h6, et, out_app]
      simp [out, wrt]
    · rw [List.length_append, h7]
      rfl
  · rintro σ' H' ⟨⟨u4, u8, rfl⟩, e4, h4, ws, h5, h6, h7⟩
    have e9 : v.take (SX.S v).cps.size = v := by
      have : (SX.S v).cps.size = v.length := by
        show v.toArray.size = _
        simp
      rw [this, List.take_length]
    rw [e9] at h6 ⊢
    have hlen := out_len ok v s hs hv
    refine s_retU (eu_tup (ea_cons (ev_joinB (ps := ws) (ev_is ev_c (by rw [nil_is])) (ev_var rfl) (.inl (sq_of h5)) (by rw [h6]; omega)) (ea_cons (ev_var rfl) ea_nil)) (by show 2 ≤ 100000; decide)) fun r H5 hr e5 g5 => ?_
    rw [h6] at g5
    exact q r H5 (fresh_back e4 hr) (e4.trans e5) g5
end
end Ver
namespace Ver
open PySem PySem.Spec PyProof.Rows L2 Evl
theorem q_dropS {σ : L2.St} {H : Hp} {D : Ends} {tz : TS} {sp : Sp} {E : L2.St → XK} {ta : TA} {vs : List V} (h : EvA ta σ H vs) (k : ∀ H1, Ex H H1 → sp vs H1 (fun _ H2 => tz D σ H2) (E σ)) : tSeq (tDrop (tCallS sp E ta)) tz D σ H := h H (Ex.refl H) _ k
theorem RetE.back {C : Addr} {fs : List (Str × V)} {H H' : Hp} {E : XK} (h : RetE C fs H E) (e : Ex H H') : RetE C fs H' E := fun d H2 e2 hd h2 => h d H2 (e.trans e2) (fresh_back e hd) h2
theorem RetU.back {xs : List V} {H H' : Hp} {Q : VK} (h : RetU xs H Q) (e : Ex H H') : RetU xs H' Q := fun p H2 hp e2 h2 => h p H2 (fresh_back e hp) (e.trans e2) h2
theorem RetV.back {x : V} {H H' : Hp} {Q : VK} (h : RetV x H Q) (e : Ex H H') : RetV x H' Q := fun H2 e2 => h H2 (e.trans e2)
theorem s_retIxMX {σ : L2.St} {H : Hp} {D : Ends} {C a dx : Addr} {fs : List (Str × V)} {m : Str} {sp : Sp} {dvs vs : List V} {E : L2.St → XK} {ta tb : TE} {t : TA} {r : R2} (ha : Ev ta σ H (.ref a)) (hi : H a = some (.ins C dx fs)) (hl : fs.lookup m = none) (ht : EvA t σ H vs)
    (k : ∀ H1, Ex H H1 → sp (.ref a :: (vs ++ dvs)) H1 (fun v H2 => tb σ H2 fun y H3 => r v y H3 D.rt) (E σ)) : tRet (tOp r (tMethX C m sp dvs E ta t) tb) D σ H :=
  ha H (Ex.refl H) _ fun H1 e1 => ⟨a, dx, fs, rfl, e1 _ _ hi, hl, ht H1 e1 _ fun H2 e2 => k H2 (e1.trans e2)⟩
section
variable {P : Program} {w : World} {K : PySem.W.Frag} {mg : Str → Option Value} {base : Heap} {C_Machine : Addr} {C_PressError : Addr} {C_BadAlphabet : Addr} {C_BadLetter : Addr} {C_BadStanding : Addr} {C_BadRule : Addr} {C_AlphabetsDiffer : Addr}
/-! ### Machine.run -/
def spRun (C CB : Addr) : Sp := fun vs H Q E => ∃ (p : Addr) (al v : List Nat) (R : Tbl) (s : Nat), vs = [.ref p, tx v, .int (s : Int)] ∧ MchAt C H p al R ∧ s < R.length ∧ v.length ≤ 1000 ∧ (((∀ c ∈ v, c ∈ al) ∧ RetU [tx (out R al s v), .int (fin R al s v : Int)] H Q) ∨ ∃ k, bad1 al v k ∧ RetE CB [("index", .int (k : Int))] H E)
theorem has_run (F : AtMK K C_Machine "run" "Machine.run" s_Machine_run [("start", .int 0)]) (T : Top K mg C_Machine) (h1 : HasX P w K mg base "check_text" s_check_text ["alphabet", "text"] 3 (fun vs H Q E => spCkTx vs H Q E ∨ spCkTxB C_BadLetter vs H Q E)) (h2 : Has P w K mg base "written_by" s_written_by ["rules", "alphabet", "text", "start"] 1 spWb) : HasMX P w K mg base C_Machine "run" ["self", "text", "start"] 4 2 ["start"] [.int 0] (spRun C_Machine C_BadLetter) := by
  obtain ⟨f, fd, F, M, k⟩ := F.ex
  obtain ⟨f1, fd1, _, GX_check_text, b_check_text, m_check_text, k_check_text⟩ := h1
  obtain ⟨f2, fd2, _, G_written_by, b_written_by, m_written_by, k_written_by⟩ := h2
  obtain ⟨ds, rd, bd⟩ := (Ver.Fun.toD F k).binds0 (ps := ["self", "text", "start"]) 2 (by simp) rfl fun D doc pm an cdv ct us ks l1 l2 => match us, ks, l1, l2 with
    | [_, _], [_], _, _ => ⟨_, _, _, _, _, _, rfl, rfl, rfl⟩
  refine ⟨f, fd, ds, F.okX S_Machine_run (fun vs H Q E h => ?_) (fun cdv A outer s H vs Q E hr h => ?_), M, rd, bd, ⟨fun s us ws X l1 l2 => ?_, fun r1 r2 => r1.append r2⟩⟩
  · obtain ⟨p, al, v, R, s, rfl, _⟩ := h
    rfl
  · obtain ⟨p, al, v, R, s, rfl, hM, hs, hz, q⟩ := h
    refine ⟨_, (pss_cons
    (ps_expr (pe_callS GX_check_text (hr.mono (by decide)) rfl m_check_text k_check_text b_check_text (fun σ => passAt (takes_of rfl rfl rfl rfl) σ) (pa_cons (pe_fld (pv 0) rfl) (pa_cons (pv 1) pa_nil))))
    (pss_one
    (ps_ret (pe_call G_written_by (hr.mono (by decide)) rfl m_written_by k_written_by b_written_by .nil pass0 (pa_cons (pe_fld (pv 0) rfl) (pa_cons (pe_fld (pv 0) rfl) (pa_cons (pv 1) (pa_cons (pv 2) pa_nil)))))))), ?_⟩
    obtain ⟨dx, ra, rc, xs, g1, g2, g3⟩ := hM.ex
    have cl := T.cl_Machine
    have hA := hM.alf
    refine q_dropS (ea_cons (ev_fld (ev_var rfl) g1 cl T.n_Machine_alphabet mf_alphabet) (ea_cons (ev_var rfl) ea_nil)) fun H1 e1 => ?_
    rcases q with ⟨hv, q⟩ | ⟨k, hb, q⟩
    · refine .inl ⟨al, v, rfl, hv, by omega, fun H2 e2 => ?_⟩
      have e12 := e1.trans e2
      exact s_retU (eu_call (ea_cons (ev_fld (ev_var rfl) (e12 _ _ g1) cl T.n_Machine_rules mf_rules) (ea_cons (ev_fld (ev_var rfl) (e12 _ _ g1) cl T.n_Machine_alphabet mf_alphabet) (ea_cons (ev_var rfl) (ea_cons (ev_var rfl) ea_nil)))) fun H3 e3 Q' q' E' => ⟨ra, xs, al, v, R, s, rfl, e3 _ _ (e12 _ _ g2), g3.mono line_sol (e12.trans e3), hM.ok, hA.nd, by have := hA.six; omega, hv, hz, hs, q'⟩) fun r H3 hr3 e3 h3 => q r H3 (fresh_back e12 hr3) (e12.trans e3) h3
    · exact .inr ⟨al, v, k, rfl, hb, by omega, q.back e1⟩
  · obtain ⟨oc, od, kV, doc, pm, an, cdv, ct, osl, rfl, lk, hcd⟩ := F.ex
    match us, ws, l1, l2 with
    | [_, _], [_], _, _ => exact .of_eq rfl
/-! ### check_same_alphabet -/
def spCsa (CD : Addr) : Sp := fun vs H Q E => ∃ al al2 : List Nat, vs = [tx al, tx al2] ∧ ((al = al2 ∧ RetV .non H Q) ∨ (al ≠ al2 ∧ RetE CD [("two", tx al2), ("one", tx al)] H E))
theorem has_csa (F : At K mg "check_same_alphabet" s_check_same_alphabet) (T : Top K mg C_Machine) (GE_AlphabetsDiffer : Er_AlphabetsDiffer P w K mg base C_AlphabetsDiffer) : HasX P w K mg base "check_same_alphabet" s_check_same_alphabet ["one", "two"] 3 (spCsa C_AlphabetsDiffer) := by
  obtain ⟨f, fd, F, m⟩ := F.ex
  refine ⟨f, fd, F, F.okX S_check_same_alphabet (fun vs H Q E h => ?_) (fun cdv A outer s H vs Q E hr h => ?_), F.binds fun _ _ _ _ _ _ us hl => match us, hl with | [_, _], _ => rfl, m, F.kp⟩
  · obtain ⟨al, al2, rfl, _⟩ := h
    rfl
  obtain ⟨al, al2, rfl, q⟩ := h
  refine ⟨_, (pss_one
    (ps_if (pt_cmpR op_ne (pv 0) (pv 1) (nomark _)) (pss_one
    (ps_raiseE rfl GE_AlphabetsDiffer (hr.mono (by decide)) (takes_of rfl rfl rfl rfl) (pa_cons (pv 0) (pa_cons (pv 1) pa_nil)) rfl)) pss_nil)), ?_⟩
  refine s_when (et_neS (ev_var rfl) (ev_var rfl)) (fun hb H1 e1 => ?_) (fun hb H1 e1 => ?_)
  · have ne : al ≠ al2 := by simpa using hb
    rcases q with ⟨h, _⟩ | ⟨_, q⟩
    · exact absurd h ne
    · exact s_raiseR (vs := [tx al, tx al2]) (ea_cons (ev_var rfl) (ea_cons (ev_var rfl) ea_nil)) rfl (by decide) e1 q
  · have eq : al = al2 := by simpa using hb
    rcases q with ⟨_, q⟩ | ⟨h, _⟩
    · exact q H1 e1
    · exact absurd eq h
/-! ### Machine.last_after -/
def spLa (C CB : Addr) : Sp := fun vs H Q E => ∃ (p : Addr) (al v : List Nat) (R : Tbl), vs = [.ref p, tx v] ∧ MchAt C H p al R ∧ v.length ≤ 1000 ∧ (((∀ c ∈ v, c ∈ al) ∧ RetV (.int (fin R al 0 v : Int)) H Q) ∨ ∃ k, bad1 al v k ∧ RetE CB [("index", .int (k : Int))] H E)
theorem has_la (F : AtM K C_Machine "last_after" "Machine.last_after" s_Machine_last_after) (T : Top K mg C_Machine) (h1 : HasMX P w K mg base C_Machine "run" ["self", "text", "start"] 4 2 ["start"] [.int 0] (spRun C_Machine C_BadLetter)) : HasMX P w K mg base C_Machine "last_after" ["self", "text"] 5 2 [] [] (spLa C_Machine C_BadLetter) := by
  obtain ⟨f, fd, F, M⟩ := F.ex
  obtain ⟨f1, fd1, ds, GX_Machine_run, M_Machine_run, d_Machine_run, b_Machine_run, kb_Machine_run⟩ := h1
  refine ⟨f, fd, [], F.okX S_Machine_last_after (fun vs H Q E h => ?_) (fun cdv A outer s H vs Q E hr h => ?_), M, .nil, F.binds fun _ _ _ _ _ _ us hl => match us, hl with | [_, _], _ => rfl, ⟨fun s us ws X l1 l2 => ?_, fun r1 r2 => r1.append r2⟩⟩
  · obtain ⟨p, al, v, R, rfl, _⟩ := h
    rfl
  · obtain ⟨p, al, v, R, rfl, hM, hz, q⟩ := h
    refine ⟨_, (pss_one
    (ps_ret (pe_ix (r := rIxT K) ix_tup (pe_methX (pv 0) T.cl_Machine M_Machine_run GX_Machine_run (hr.mono (by decide)) b_Machine_run d_Machine_run (fun σ => passAt (takes_of rfl rfl rfl rfl) σ) (pa_cons (pv 1) pa_nil)) pe_int (fun _ _ => rfl)))), ?_⟩
    obtain ⟨dx, ra, rc, xs, g1, g2, g3⟩ := hM.ex
    have pos := hM.ok.pos
    refine s_retIxMX (ev_var rfl) g1 (mf_meth (by decide +kernel) (by decide +kernel) (by decide +kernel) (by decide +kernel)) (ea_cons (ev_var rfl) ea_nil) fun H2 e12 => ?_
    rcases q with ⟨hv, q⟩ | ⟨k, hb, q⟩
    · refine ⟨p, al, v, R, 0, rfl, hM.mono e12, by omega, hz, .inl ⟨hv, fun r H3 hr3 e3 h3 => ?_⟩⟩
      refine ev_c H3 (Ex.refl H3) _ fun H4 e4 => ?_
      exact rv_ixT (v := .int (fin R al 0 v : Int)) (st_of (e4 _ _ h3)) (atI_nat (j := 1) rfl) H4 (Ex.refl H4) _ fun H5 e5 => q H5 (((e12.trans e3).trans e4).trans e5)
    · exact ⟨p, al, v, R, 0, rfl, hM.mono e12, by omega, hz, .inr ⟨k, hb, q.back e12⟩⟩
  · obtain ⟨oc, od, kV, doc, pm, an, cdv, ct, osl, rfl, lk, hcd⟩ := F.ex
    match us, ws, l1, l2 with
    | [_, _], [], _, _ => exact .of_eq rfl
/-! ### is_lead_loop -/
def lead (R1 R2 : Tbl) (al b c : List Nat) : Bool := decide (fin R1 al (fin R1 al 0 b) c = fin R1 al 0 b) && (decide (fin R2 al (fin R2 al 0 b) c = fin R2 al 0 b) && decide ((out R2 al (fin R2 al 0 b) c).length < (out R1 al (fin R1 al 0 b) c).length))
def spLl (C CB CD : Addr) : Sp := fun vs H Q E => ∃ (p p2 : Addr) (al al2 b c : List Nat) (R1 R2 : Tbl), vs = [.ref p, .ref p2, tx b, tx c] ∧ MchAt C H p al R1 ∧ MchAt C H p2 al2 R2 ∧ b.length ≤ 1000 ∧ c.length ≤ 1000 ∧
  ((al ≠ al2 ∧ RetE CD [("two", tx al2), ("one", tx al)] H E) ∨ (al = al2 ∧ ∃ k, bad1 al b k ∧ RetE CB [("index", .int (k : Int))] H E) ∨ (al = al2 ∧ (∀ x ∈ b, x ∈ al) ∧ ∃ k, bad1 al c k ∧ RetE CB [("index", .int (k : Int))] H E) ∨
    (al = al2 ∧ (∀ x ∈ b, x ∈ al) ∧ (∀ x ∈ c, x ∈ al) ∧ RetV (.bl (lead R1 R2 al b c)) H Q))
theorem has_ll (F : At K mg "is_lead_loop" s_is_lead_loop) (T : Top K mg C_Machine) (h1 : HasX P w K mg base "check_same_alphabet" s_check_same_alphabet ["one", "two"] 3 (spCsa C_AlphabetsDiffer)) (h2 : HasMX P w K mg base C_Machine "last_after" ["self", "text"] 5 2 [] [] (spLa C_Machine C_BadLetter)) (h3 : HasMX P w K mg base C_Machine "run" ["self", "text", "start"] 4 2 ["start"] [.int 0] (spRun C_Machine C_BadLetter)) :
    HasX P w K mg base "is_lead_loop" s_is_lead_loop ["one", "two", "begin", "loop"] 6 (spLl C_Machine C_BadLetter C_AlphabetsDiffer) := by
  obtain ⟨f, fd, F, m⟩ := F.ex
  obtain ⟨f1, fd1, _, GX_check_same_alphabet, b_check_same_alphabet, m_check_same_alphabet, k_check_same_alphabet⟩ := h1
  obtain ⟨f2, fd2, ds2, GX_Machine_last_after, M_Machine_last_after, d_Machine_last_after, b_Machine_last_after, _⟩ := h2
  obtain ⟨f3, fd3, ds, GX_Machine_run, M_Machine_run, d_Machine_run, b_Machine_run, kb_Machine_run⟩ := h3
  refine ⟨f, fd, F, F.okX S_is_lead_loop (fun vs H Q E h => ?_) (fun cdv A outer s H vs Q E hr h => ?_), F.binds fun _ _ _ _ _ _ us hl => match us, hl with | [_, _, _, _], _ => rfl, m, F.kp⟩
  · obtain ⟨p, p2, al, al2, b, c, R1, R2, rfl, _⟩ := h
    rfl
  obtain ⟨p, p2, al, al2, b, c, R1, R2, rfl, hM, hM2, hzb, hzc, q⟩ := h
  refine ⟨_, (pss_cons
    (ps_expr (pe_callS GX_check_same_alphabet (hr.mono (by decide)) rfl m_check_same_alphabet k_check_same_alphabet b_check_same_alphabet (fun σ => passAt (takes_of rfl rfl rfl rfl) σ) (pa_cons (pe_fld (pv 0) rfl) (pa_cons (pe_fld (pv 1) rfl) pa_nil))))
    (pss_cons
    (ps_set (i := 4) S_is_lead_loop.nd rfl (Or.inl rfl) (pe_methX (pv 0) T.cl_Machine M_Machine_last_after GX_Machine_last_after (hr.mono (by decide)) b_Machine_last_after d_Machine_last_after (fun σ => passAt (takes_of rfl rfl rfl rfl) σ) (pa_cons (pv 2) pa_nil)))
    (pss_cons
    (ps_set (i := 5) S_is_lead_loop.nd rfl (Or.inl rfl) (pe_methX (pv 1) T.cl_Machine M_Machine_last_after GX_Machine_last_after (hr.mono (by decide)) b_Machine_last_after d_Machine_last_after (fun σ => passAt (takes_of rfl rfl rfl rfl) σ) (pa_cons (pv 2) pa_nil)))
    (pss_cons
    (ps_asg (pe_methNX (pv 0) T.cl_Machine M_Machine_run GX_Machine_run (hr.mono (by decide)) kb_Machine_run (fun σ => passAt (takes_of rfl rfl rfl rfl) σ) (pa_cons (pv 3) pa_nil) (pk_cons (pv 4) pk_nil)) (pg_tup rfl (pgs_cons (pg_name (i := 6) S_is_lead_loop.nd rfl (Or.inl rfl)) (pgs_cons (pg_name (i := 7) S_is_lead_loop.nd rfl (Or.inl rfl)) pgs_nil))))
    (pss_cons
    (ps_asg (pe_methNX (pv 1) T.cl_Machine M_Machine_run GX_Machine_run (hr.mono (by decide)) kb_Machine_run (fun σ => passAt (takes_of rfl rfl rfl rfl) σ) (pa_cons (pv 3) pa_nil) (pk_cons (pv 5) pk_nil)) (pg_tup rfl (pgs_cons (pg_name (i := 8) S_is_lead_loop.nd rfl (Or.inl rfl)) (pgs_cons (pg_name (i := 9) S_is_lead_loop.nd rfl (Or.inl rfl)) pgs_nil))))
    (pss_one
    (ps_ret (pe_and (pe_cmpR op_eq (pv 7) (pv 4) (nomark _)) (pe_and (pe_cmpR op_eq (pv 9) (pv 5) (nomark _)) (pe_one (pe_cmpR op_gt (pe_callB call_len_str rfl T.z_len PySem.boot_len (pa_cons (pv 6) pa_nil)) (pe_callB call_len_str rfl T.z_len PySem.boot_len (pa_cons (pv 8) pa_nil)) (nomark _)))))))))))), ?_⟩
  obtain ⟨dx, ra, rc, xs, g1, _, _⟩ := hM.ex
  obtain ⟨dx2, ra2, rc2, xs2, k1, _, _⟩ := hM2.ex
  have cl := T.cl_Machine
  have ml : ∀ {al : List Nat} {ra rc : Addr} {n : Nat}, (mchFs al ra n rc).lookup ("last_after" : Str) = none := mf_meth (by decide +kernel) (by decide +kernel) (by decide +kernel) (by decide +kernel)
  have mr : ∀ {al : List Nat} {ra rc : Addr} {n : Nat}, (mchFs al ra n rc).lookup ("run" : Str) = none := mf_meth (by decide +kernel) (by decide +kernel) (by decide +kernel) (by decide +kernel)
  refine q_dropS (ea_cons (ev_fld (ev_var rfl) g1 cl T.n_Machine_alphabet mf_alphabet) (ea_cons (ev_fld (ev_var rfl) k1 cl T.n_Machine_alphabet mf_alphabet) ea_nil)) fun H1 e1 => ?_
  rcases q with ⟨ne, q⟩ | ⟨rfl, k, hb, q⟩ | ⟨rfl, hb, k, hc, q⟩ | ⟨rfl, hb, hc, q⟩
  · exact ⟨al, al2, rfl, .inr ⟨ne, q.back e1⟩⟩
  · refine ⟨al, al, rfl, .inl ⟨rfl, fun H2 e2 => ?_⟩⟩
    have e12 := e1.trans e2
    exact q_methX (ev_var rfl) (e12 _ _ g1) ml (ea_cons (ev_var rfl) ea_nil) fun H3 e3 => ⟨p, al, b, R1, rfl, hM.mono (e12.trans e3), hzb, .inr ⟨k, hb, q.back (e12.trans e3)⟩⟩
  · refine ⟨al, al, rfl, .inl ⟨rfl, fun H2 e2 => ?_⟩⟩
    have e12 := e1.trans e2
    refine q_methX (ev_var rfl) (e12 _ _ g1) ml (ea_cons (ev_var rfl) ea_nil) fun H3 e3 => ⟨p, al, b, R1, rfl, hM.mono (e12.trans e3), hzb, .inl ⟨hb, fun H4 e4 => ?_⟩⟩
    have e14 := (e12.trans e3).trans e4
    refine q_methX (ev_var rfl) (e14 _ _ k1) ml (ea_cons (ev_var rfl) ea_nil) fun H5 e5 => ⟨p2, al, b, R2, rfl, hM2.mono (e14.trans e5), hzb, .inl ⟨hb, fun H6 e6 => ?_⟩⟩
    have e16 := (e14.trans e5).trans e6
    exact q_methNX (ev_var rfl) (e16 _ _ g1) mr (ea_cons (ev_var rfl) ea_nil) (ea_cons (ev_var rfl) ea_nil) rfl rfl fun H7 e7 => ⟨p, al, c, R1, fin R1 al 0 b, rfl, hM.mono (e16.trans e7), fin_lt hM.ok b 0 hM.ok.pos hb, hzc, .inr ⟨k, hc, q.back (e16.trans e7)⟩⟩
  · refine ⟨al, al, rfl, .inl ⟨rfl, fun H2 e2 => ?_⟩⟩
    have e12 := e1.trans e2
    refine q_methX (ev_var rfl) (e12 _ _ g1) ml (ea_cons (ev_var rfl) ea_nil) fun H3 e3 => ⟨p, al, b, R1, rfl, hM.mono (e12.trans e3), hzb, .inl ⟨hb, fun H4 e4 => ?_⟩⟩
    have e14 := (e12.trans e3).trans e4
    refine q_methX (ev_var rfl) (e14 _ _ k1) ml (ea_cons (ev_var rfl) ea_nil) fun H5 e5 => ⟨p2, al, b, R2, rfl, hM2.mono (e14.trans e5), hzb, .inl ⟨hb, fun H6 e6 => ?_⟩⟩
    have e16 := (e14.trans e5).trans e6
    refine q_methNX (ev_var rfl) (e16 _ _ g1) mr (ea_cons (ev_var rfl) ea_nil) (ea_cons (ev_var rfl) ea_nil) rfl rfl fun H7 e7 => ⟨p, al, c, R1, fin R1 al 0 b, rfl, hM.mono (e16.trans e7), fin_lt hM.ok b 0 hM.ok.pos hb, hzc, .inl ⟨hc, fun r H8 hr8 e8 h8 => gp_of h8 ?_⟩⟩
    have e18 := (e16.trans e7).trans e8
    refine q_methNX (ev_var rfl) (e18 _ _ k1) mr (ea_cons (ev_var rfl) ea_nil) (ea_cons (ev_var rfl) ea_nil) rfl rfl fun H9 e9 => ⟨p2, al, c, R2, fin R2 al 0 b, rfl, hM2.mono (e18.trans e9), fin_lt hM2.ok b 0 hM2.ok.pos hb, hzc, .inl ⟨hc, fun r H10 hr10 e10 h10 => gp_of h10 ?_⟩⟩
    have e110 := (e18.trans e9).trans e10
    have l1 := out_len hM.ok c (fin R1 al 0 b) (fin_lt hM.ok b 0 hM.ok.pos hb) hc
    have l2 := out_len hM2.ok c (fin R2 al 0 b) (fin_lt hM2.ok b 0 hM2.ok.pos hb) hc
    have eqN : ∀ {a b : Nat}, decide (V.int (a : Int) = V.int (b : Int)) = decide (a = b) := fun {a b} => by
      rw [Bool.eq_iff_iff, decide_eq_true_eq, decide_eq_true_eq]
      exact ⟨fun z => by injection z with z; omega, fun z => by rw [z]⟩
    refine s_ret (ev_andV (a := decide (fin R1 al (fin R1 al 0 b) c = fin R1 al 0 b)) (ev_is (ev_op (ev_var rfl) (ev_var rfl) (rv_eq rfl)) (by rw [eqN])) fun _ => ev_andV (a := decide (fin R2 al (fin R2 al 0 b) c = fin R2 al 0 b)) (b := decide ((out R2 al (fin R2 al 0 b) c).length < (out R1 al (fin R1 al 0 b) c).length)) (ev_is (ev_op (ev_var rfl) (ev_var rfl) (rv_eq rfl)) (by rw [eqN])) fun _ => ev_is (ev_op (ev_lenS (by omega) (ev_var rfl)) (ev_lenS (by omega) (ev_var rfl)) rv_I0) ?_) fun H11 e11 => q H11 (e110.trans e11)
    congr 1
    rw [Bool.eq_iff_iff, decide_eq_true_eq, decide_eq_true_eq]
    omega
end
end Ver
namespace Ver
open PySem PySem.Spec PyProof.Rows L2 Evl
theorem ixf_idx {al : List Nat} {c : Nat} (h : c ∈ al) : al[ixf al c]? = some c := (ixf_at h).1
theorem rv_eqI2 {K : PySem.W.Frag} {H : Hp} {p q : Addr} {a b c d : Int} (h1 : H p = some (.tup [.int a, .int b])) (h2 : H q = some (.tup [.int c, .int d])) : RV (rEqD K) (.ref p) (.ref q) H (.bl (decide (a = c) && decide (b = d))) := fun H1 e Q k => by
  have sh : ∀ x y : Int, SeqAt.shaped (.tuple [.int x, .int y]) = true := fun x y => shaped_tup (n := 0) (fun d hd => by
    rcases List.mem_cons.mp hd with rfl | hd
    · exact ⟨by simp [PyData.canLay0], by simp [PyData.depth]⟩
    · rw [List.mem_singleton.mp hd]
      exact ⟨by simp [PyData.canLay0], by simp [PyData.depth]⟩) (by decide)
  refine ⟨.tuple [.int a, .int b], .tuple [.int c, .int d], .tup (st_of (e _ _ h1)) (.cons (.int _) (.cons (.int _) .nil)), .tup (st_of (e _ _ h2)) (.cons (.int _) (.cons (.int _) .nil)), sh a b, sh c d, ?_⟩
  have ee : PyData.eqv (.tuple [.int a, .int b]) (.tuple [.int c, .int d]) = (decide (a = c) && decide (b = d)) := by
    simp [PyData.eqv, PyData.eqvAll]
    rw [Bool.eq_iff_iff]
    simp
  rw [ee]
  exact k H1 (Ex.refl H1)
theorem q_asgIx {σ : L2.St} {H : Hp} {D : Ends} {tz : TS} {te tb : TE} {r : R2} {i : Nat} (h : te σ H fun x H1 => tb σ H1 fun y H2 => r x y H2 fun v H3 => tz D (σ.set i (some v)) H3) : tSeq (tAsg (tOp r te tb) (gName i)) tz D σ H := h
structure Rc (al : List Nat) (R1 R2 : Tbl) : Prop where
  o1 : TblOk al.length R1
  o2 : TblOk al.length R2
  A : Alf al
section
variable {P : Program} {w : World} {K : PySem.W.Frag} {mg : Str → Option Value} {base : Heap} {C_Machine : Addr}
/-! ### _law_race -/
def spRace : Sp := fun vs H Q _ => ∃ (al v : List Nat) (R1 R2 : Tbl) (x y : V) (op : Addr) (s1 s2 : Nat), vs = [tx al, x, y, tx v, .ref op] ∧ Rc al R1 R2 ∧ TabP R1 H x ∧ TabP R2 H y ∧ H op = some (.tup [.int (s1 : Int), .int (s2 : Int)]) ∧ s1 < R1.length ∧ s2 < R2.length ∧ (∀ c ∈ v, c ∈ al) ∧ v.length ≤ 2000 ∧
  ∀ p q H2, H p = none → Ex H H2 → H2 p = some (.lst [.int (((out R1 al s1 v).length : Int) - ((out R2 al s2 v).length : Int)), .ref q]) → H2 q = some (.tup [.int (fin R1 al s1 v : Int), .int (fin R2 al s2 v : Int)]) → Q (.ref p) H2
theorem has_race (F : At K mg "_law_race" s__law_race) (T : Top K mg C_Machine) : Has P w K mg base "_law_race" s__law_race ["alphabet", "this", "that", "text", "opening"] 1 spRace := by
  obtain ⟨f, fd, F, m⟩ := F.ex
  refine ⟨f, fd, F, F.ok S__law_race (fun vs H Q E h => ?_) (fun cdv A outer s H vs Q E hr h => ?_), F.binds fun _ _ _ _ _ _ us hl => match us, hl with | [_, _, _, _, _], _ => rfl, m, F.kp⟩
  · obtain ⟨al, v, R1, R2, x, y, op, s1, s2, rfl, _⟩ := h
    rfl
  obtain ⟨al, v, R1, R2, x, y, op, s1, s2, rfl, rc, ⟨t1, x1, rfl, g1, lb1⟩, ⟨t2, x2, rfl, g2, lb2⟩, hop, hs1, hs2, hv, hz, q⟩ := h
  refine ⟨_, (pss_cons
    (ps_set (i := 5) S__law_race.nd rfl (Or.inl rfl) pe_int)
    (pss_cons
    (ps_set (i := 6) S__law_race.nd rfl (Or.inl rfl) (pv 4))
    (pss_cons
    (ps_for PassesOwn.never rfl (pi_str (pv 3)) (pg_name (i := 7) S__law_race.nd rfl (Or.inl rfl)) (pss_cons
    (ps_set (i := 8) S__law_race.nd rfl (Or.inl rfl) (pe_bm PySem.F.plainAttrs_str PySem.F.slot_str_index PySem.F.type_str_index mt_sindex (pv 0) (pa_cons (pv 7) pa_nil)))
    (pss_cons
    (ps_set (i := 5) S__law_race.nd rfl (Or.inl rfl) (pe_op op_sub (pe_op op_add (pv 5) (pe_callB call_len_str rfl T.z_len PySem.boot_len (pa_cons (pe_ix (r := rIxT K) ix_tup (pe_ix (r := rIxT K) ix_tup (pe_ix (r := rIxT K) ix_tup (pv 1) (pe_ix (r := rIxT K) ix_tup (pv 6) pe_int (fun _ _ => rfl)) (fun _ _ => rfl)) (pv 8) (fun _ _ => rfl)) pe_int (fun _ _ => rfl)) pa_nil))) (pe_callB call_len_str rfl T.z_len PySem.boot_len (pa_cons (pe_ix (r := rIxT K) ix_tup (pe_ix (r := rIxT K) ix_tup (pe_ix (r := rIxT K) ix_tup (pv 2) (pe_ix (r := rIxT K) ix_tup (pv 6) pe_int (fun _ _ => rfl)) (fun _ _ => rfl)) (pv 8) (fun _ _ => rfl)) pe_int (fun _ _ => rfl)) pa_nil))))
    (pss_one
    (ps_set (i := 6) S__law_race.nd rfl (Or.inl rfl) (pe_tup (pa_cons (pe_ix (r := rIxT K) ix_tup (pe_ix (r := rIxT K) ix_tup (pe_ix (r := rIxT K) ix_tup (pv 1) (pe_ix (r := rIxT K) ix_tup (pv 6) pe_int (fun _ _ => rfl)) (fun _ _ => rfl)) (pv 8) (fun _ _ => rfl)) pe_int (fun _ _ => rfl)) (pa_cons (pe_ix (r := rIxT K) ix_tup (pe_ix (r := rIxT K) ix_tup (pe_ix (r := rIxT K) ix_tup (pv 2) (pe_ix (r := rIxT K) ix_tup (pv 6) pe_int (fun _ _ => rfl)) (fun _ _ => rfl)) (pv 8) (fun _ _ => rfl)) pe_int (fun _ _ => rfl)) pa_nil))))))))
    (pss_one
    (ps_ret (pe_lst (pa_cons (pv 5) (pa_cons (pv 6) pa_nil)))))))), ?_⟩
  have six := rc.A.six
  refine q_asg (v := .int 0) ev_c fun H1 e1 => ?_
  refine q_asg (v := .ref op) (ev_var rfl) fun H2 e2 => ?_
  refine q_forS (z := SX.S v) (ev_var rfl) (fun i σ' H' => (∃ (q0 : Addr) (u7 u8 : Option V), σ' = [some (tx al), some (.ref t1), some (.ref t2), some (tx v), some (.ref op), some (.int (((out R1 al s1 (v.take i)).length : Int) - ((out R2 al s2 (v.take i)).length : Int))), some (.ref q0), u7, u8] ∧ H' q0 = some (.tup [.int (fin R1 al s1 (v.take i) : Int), .int (fin R2 al s2 (v.take i) : Int)])) ∧ Ex H H') ?_ ?_ ?_
  · intro H3 e3
    exact ⟨⟨op, none, none, rfl, ((e1.trans e2).trans e3) _ _ hop⟩, (e1.trans e2).trans e3⟩
  · rintro i c σ' H' hc ⟨⟨q0, u7, u8, rfl, hq⟩, e3⟩
    have hc2 : v[i]? = some c := hc
    have hcal := hv c (List.mem_of_getElem? hc2)
    have hvi : ∀ x ∈ v.take i, x ∈ al := fun x hx => hv x (List.mem_of_mem_take hx)
    obtain ⟨hat, hix⟩ := ixf_at hcal
    have f1 := fin_lt rc.o1 (v.take i) s1 hs1 hvi
    have f2 := fin_lt rc.o2 (v.take i) s2 hs2 hvi
    refine q_asg (v := .int (ixf al c : Int)) (ev_sidx rc.A.nd hat (ev_var rfl) (ev_var rfl)) fun H3 e4 => ?_
    have e34 := e3.trans e4
    have hq4 := e4 _ _ hq
    have p0 : ∀ {σ : L2.St} {H' : Hp}, Ex H3 H' → σ[6]? = some (some (.ref q0)) → Ev (tOp (rIxT K) (tVar 6) (tC (.int 0))) σ H' (.int (fin R1 al s1 (v.take i) : Int)) := fun e h => ev_op (ev_var h) ev_c (rv_ixT (st_of (e _ _ hq4)) (atI_nat (j := 0) rfl))
    have p1 : ∀ {σ : L2.St} {H' : Hp}, Ex H3 H' → σ[6]? = some (some (.ref q0)) → Ev (tOp (rIxT K) (tVar 6) (tC (.int 1))) σ H' (.int (fin R2 al s2 (v.take i) : Int)) := fun e h => ev_op (ev_var h) ev_c (rv_ixT (st_of (e _ _ hq4)) (atI_nat (j := 1) rfl))
    have ru1 : ∀ {σ : L2.St} {H' : Hp}, Ex H3 H' → σ[6]? = some (some (.ref q0)) → σ[1]? = some (some (.ref t1)) → σ[8]? = some (some (.int (ixf al c : Int))) → ∃ r, H' r = some (.tup [.int ((rl R1 (fin R1 al s1 (v.take i)) (ixf al c)).1 : Int), tx (rl R1 (fin R1 al s1 (v.take i)) (ixf al c)).2]) ∧ Ev (tOp (rIxT K) (tOp (rIxT K) (tVar 1) (tOp (rIxT K) (tVar 6) (tC (.int 0)))) (tVar 8)) σ H' (.ref r) := fun e h6 h1 h8 => ev_rule rc.o1 ((e34.trans e) _ _ g1) (lb1.mono line_sol (e34.trans e)) f1 hix (ev_var h1) (p0 e h6) (ev_var h8)
    have ru2 : ∀ {σ : L2.St} {H' : Hp}, Ex H3 H' → σ[6]? = some (some (.ref q0)) → σ[2]? = some (some (.ref t2)) → σ[8]? = some (some (.int (ixf al c : Int))) → ∃ r, H' r = some (.tup [.int ((rl R2 (fin R2 al s2 (v.take i)) (ixf al c)).1 : Int), tx (rl R2 (fin R2 al s2 (v.take i)) (ixf al c)).2]) ∧ Ev (tOp (rIxT K) (tOp (rIxT K) (tVar 2) (tOp (rIxT K) (tVar 6) (tC (.int 1)))) (tVar 8)) σ H' (.ref r) := fun e h6 h1 h8 => ev_rule rc.o2 ((e34.trans e) _ _ g2) (lb2.mono line_sol (e34.trans e)) f2 hix (ev_var h1) (p1 e h6) (ev_var h8)
    have l1 := rc.o1.len _ _ f1 hix
    have l2 := rc.o2.len _ _ f2 hix
    have et := take_snoc hc2
    obtain ⟨r1, hr1, er1⟩ := ru1 (σ := [some (tx al), some (.ref t1), some (.ref t2), some (tx v), some (.ref op), some (.int (((out R1 al s1 (v.take i)).length : Int) - ((out R2 al s2 (v.take i)).length : Int))), some (.ref q0), some (tx [c]), some (.int (ixf al c : Int))]) (Ex.refl H3) rfl rfl rfl
    obtain ⟨r2, hr2, er2⟩ := ru2 (σ := [some (tx al), some (.ref t1), some (.ref t2), some (tx v), some (.ref op), some (.int (((out R1 al s1 (v.take i)).length : Int) - ((out R2 al s2 (v.take i)).length : Int))), some (.ref q0), some (tx [c]), some (.int (ixf al c : Int))]) (Ex.refl H3) rfl rfl rfl
    refine q_asg (v := .int (((out R1 al s1 (v.take (i + 1))).length : Int) - ((out R2 al s2 (v.take (i + 1))).length : Int))) (ev_is (ev_sub (ev_add (ev_var rfl) (ev_lenS (l := (rl R1 (fin R1 al s1 (v.take i)) (ixf al c)).2) (by omega) (ev_op er1 ev_c (rv_ixT (st_of hr1) (atI_nat (j := 1) rfl))))) (ev_lenS (l := (rl R2 (fin R2 al s2 (v.take i)) (ixf al c)).2) (by omega) (ev_op er2 ev_c (rv_ixT (st_of hr2) (atI_nat (j := 1) rfl))))) (by
      rw [et, out_app, out_app, List.length_append, List.length_append]
      simp only [out, wrt, List.append_nil]
      congr 1
      omega)) fun H4 e5 => ?_
    obtain ⟨r3, hr3, er3⟩ := ru1 (σ := [some (tx al), some (.ref t1), some (.ref t2), some (tx v), some (.ref op), some (.int (((out R1 al s1 (v.take (i + 1))).length : Int) - ((out R2 al s2 (v.take (i + 1))).length : Int))), some (.ref q0), some (tx [c]), some (.int (ixf al c : Int))]) e5 rfl rfl rfl
    obtain ⟨r4, hr4, er4⟩ := ru2 (σ := [some (tx al), some (.ref t1), some (.ref t2), some (tx v), some (.ref op), some (.int (((out R1 al s1 (v.take (i + 1))).length : Int) - ((out R2 al s2 (v.take (i + 1))).length : Int))), some (.ref q0), some (tx [c]), some (.int (ixf al c : Int))]) e5 rfl rfl rfl
    refine s_asgU (xs := [.int (fin R1 al s1 (v.take (i + 1)) : Int), .int (fin R2 al s2 (v.take (i + 1)) : Int)]) (eu_tup (ea_cons (ev_is (ev_op er3 ev_c (rv_ixT (st_of hr3) (atI_nat (j := 0) rfl))) (by rw [et, fin_app]; rfl)) (ea_cons (ev_is (ev_op er4 ev_c (rv_ixT (st_of hr4) (atI_nat (j := 0) rfl))) (by rw [et, fin_app]; rfl)) ea_nil)) (by show 2 ≤ 100000; decide)) fun q1 H5 hq1 e6 g6 => ⟨⟨q1, _, _, rfl, g6⟩, (e34.trans e5).trans e6⟩
  · rintro σ' H' ⟨⟨q0, u7, u8, rfl, hq⟩, e3⟩
    have e9 : v.take (SX.S v).cps.size = v := by
      have : (SX.S v).cps.size = v.length := by
        show v.toArray.size = _
        simp
      rw [this, List.take_length]
    rw [e9] at hq ⊢
    exact s_retL (el_lst (ea_cons (ev_var rfl) (ea_cons (ev_var rfl) ea_nil)) (by show 2 ≤ 100000; decide)) fun p H4 hp e4 h4 => q p q0 H4 (fresh_back e3 hp) (e3.trans e4) h4 (e4 _ _ hq)
/-- _law_race(.., (s, t)), a pair written -/
theorem run_race0 {σ : L2.St} {H : Hp} {E : XK} {t0 t1 t2 t3 : TE} {al v : List Nat} {R1 R2 : Tbl} {x y : V} {Q : VK} (h0 : Ev t0 σ H (tx al)) (h1 : Ev t1 σ H x) (h2 : Ev t2 σ H y) (h3 : Ev t3 σ H (tx v)) (rc : Rc al R1 R2) (hx : TabP R1 H x) (hy : TabP R2 H y) (hv : ∀ c ∈ v, c ∈ al) (hz : v.length ≤ 2000)
    (k : ∀ p q H2, H p = none → Ex H H2 → H2 p = some (.lst [.int (((out R1 al 0 v).length : Int) - ((out R2 al 0 v).length : Int)), .ref q]) → H2 q = some (.tup [.int (fin R1 al 0 v : Int), .int (fin R2 al 0 v : Int)]) → Q (.ref p) H2) :
    tCall spRace [] E (tCons t0 (tCons t1 (tCons t2 (tCons t3 (tCons (tTup (tCons (tC (.int 0)) (tCons (tC (.int 0)) tNil))) tNil))))) σ H Q :=
  h0 H (Ex.refl H) _ fun H1 e1 => h1 H1 e1 _ fun H2 e2 => h2 H2 (e1.trans e2) _ fun H3 e3 => h3 H3 ((e1.trans e2).trans e3) _ fun H4 e4 => (eu_tup (vs := [.int 0, .int 0]) (ea_cons ev_c (ea_cons ev_c ea_nil)) (by show 2 ≤ 100000; decide)) H4 (Ex.refl H4) _ fun op H5 hop e5 h5 => by
    have e := (((e1.trans e2).trans e3).trans e4).trans e5
    exact ⟨al, v, R1, R2, x, y, op, 0, 0, rfl, rc, tab_sol.mono e hx, tab_sol.mono e hy, h5, rc.o1.pos, rc.o2.pos, hv, hz, fun p q H6 hp e6 k1 k2 => k p q H6 (fresh_back e hp) (e.trans e6) k1 k2⟩
/-! ### _law_due -/
theorem lead_nil {R1 R2 : Tbl} {al b : List Nat} : lead R1 R2 al b [] = false := by
  unfold lead out
  simp
def spDue : Sp := fun vs H Q _ => ∃ (al b c : List Nat) (R1 R2 : Tbl) (x y : V), vs = [tx al, x, y, tx b, tx c] ∧ Rc al R1 R2 ∧ TabP R1 H x ∧ TabP R2 H y ∧ (∀ z ∈ b, z ∈ al) ∧ (∀ z ∈ c, z ∈ al) ∧ b.length ≤ 1000 ∧ c.length ≤ 1000 ∧ RetV (.bl (lead R1 R2 al b c)) H Q
theorem has_due (F : At K mg "_law_due" s__law_due) (T : Top K mg C_Machine) (h1 : Has P w K mg base "_law_race" s__law_race ["alphabet", "this", "that", "text", "opening"] 1 spRace) : Has P w K mg base "_law_due" s__law_due ["alphabet", "this", "that", "opening", "circle"] 2 spDue := by
  obtain ⟨f, fd, F, m⟩ := F.ex
  obtain ⟨f1, fd1, _, G__law_race, b__law_race, m__law_race, k__law_race⟩ := h1
  refine ⟨f, fd, F, F.ok S__law_due (fun vs H Q E h => ?_) (fun cdv A outer s H vs Q E hr h => ?_), F.binds fun _ _ _ _ _ _ us hl => match us, hl with | [_, _, _, _, _], _ => rfl, m, F.kp⟩
  · obtain ⟨al, b, c, R1, R2, x, y, rfl, _⟩ := h
    rfl
  obtain ⟨al, b, c, R1, R2, x, y, rfl, rc, hx, hy, hb, hc, zb, zc, q⟩ := h
  refine ⟨_, (pss_cons
    (ps_set (i := 5) S__law_due.nd rfl (Or.inl rfl) (pe_ix (r := rIxL K) ix_list (pe_call G__law_race (hr.mono (by decide)) rfl m__law_race k__law_race b__law_race .nil pass0 (pa_cons (pv 0) (pa_cons (pv 1) (pa_cons (pv 2) (pa_cons (pv 3) (pa_cons (pe_tup (pa_cons pe_int (pa_cons pe_int pa_nil))) pa_nil)))))) pe_int (fun _ _ => rfl)))
    (pss_cons
    (ps_set (i := 6) S__law_due.nd rfl (Or.inl rfl) (pe_call G__law_race (hr.mono (by decide)) rfl m__law_race k__law_race b__law_race .nil pass0 (pa_cons (pv 0) (pa_cons (pv 1) (pa_cons (pv 2) (pa_cons (pv 4) (pa_cons (pv 5) pa_nil)))))))
    (pss_one
    (ps_ret (pe_and (pe_cmpR op_ne (pv 4) pe_str (nomark _)) (pe_and (pe_cmpR (op_eqD hr.units) (pe_ix (r := rIxL K) ix_list (pv 6) pe_int (fun _ _ => rfl)) (pv 5) (nomark _)) (pe_one (pe_cmpR op_gt (pe_ix (r := rIxL K) ix_list (pv 6) pe_int (fun _ _ => rfl)) pe_int (nomark _))))))))), ?_⟩
  refine q_asgIx (i := 5) (run_race0 (ev_var rfl) (ev_var rfl) (ev_var rfl) (ev_var rfl) rc hx hy hb (by omega) fun p q0 H1 hp e1 k1 k2 => ?_)
  refine ev_c H1 (Ex.refl H1) _ fun H2 e2 => rv_ixL (v := .ref q0) (sq_of (e2 _ _ k1)) (atI_nat (j := 1) rfl) H2 (Ex.refl H2) _ fun H3 e3 => ?_
  have e13 := (e1.trans e2).trans e3
  have k3 := e3 _ _ (e2 _ _ k2)
  refine q_callQ (dvs := []) (ea_cons (ev_var rfl) (ea_cons (ev_var rfl) (ea_cons (ev_var rfl) (ea_cons (ev_var rfl) (ea_cons (ev_var rfl) ea_nil))))) fun H4 e4 => ⟨al, c, R1, R2, x, y, q0, _, _, rfl, rc, tab_sol.mono (e13.trans e4) hx, tab_sol.mono (e13.trans e4) hy, e4 _ _ k3, fin_lt rc.o1 b 0 rc.o1.pos hb, fin_lt rc.o2 b 0 rc.o2.pos hb, hc, by omega, fun p2 q2 H5 hp2 e5 j1 j2 => ?_⟩
  have e15 := (e13.trans e4).trans e5
  have k5 := e5 _ _ (e4 _ _ k3)
  have eqN : ∀ {a b : Nat}, decide ((a : Int) = (b : Int)) = decide (a = b) := fun {a b} => by
    rw [Bool.eq_iff_iff, decide_eq_true_eq, decide_eq_true_eq]
    omega
  refine s_ret (v := .bl (lead R1 R2 al b c)) (ev_is (ev_andV (a := decide (c ≠ [])) (b := (decide (fin R1 al (fin R1 al 0 b) c = fin R1 al 0 b) && decide (fin R2 al (fin R2 al 0 b) c = fin R2 al 0 b)) && decide ((out R2 al (fin R2 al 0 b) c).length < (out R1 al (fin R1 al 0 b) c).length)) (ev_is (ev_op (ev_var rfl) ev_c (rv_ne rfl)) (by rw [nil_is, tx_dec]; simp)) fun _ => ev_andV (a := decide (fin R1 al (fin R1 al 0 b) c = fin R1 al 0 b) && decide (fin R2 al (fin R2 al 0 b) c = fin R2 al 0 b)) (ev_is (ev_op (ev_op (ev_var rfl) ev_c (rv_ixL (v := .ref q2) (sq_of j1) (atI_nat (j := 1) rfl))) (ev_var rfl) (rv_eqI2 j2 k5)) (by rw [eqN, eqN])) fun _ => ev_is (ev_op (ev_op (ev_var rfl) ev_c (rv_ixL (sq_of j1) (atI_nat (j := 0) rfl))) ev_c rv_I0) (by
    congr 1
    rw [Bool.eq_iff_iff, decide_eq_true_eq, decide_eq_true_eq]
    omega)) ?_) fun H6 e6 => q H6 (e15.trans e6)
  congr 1
  by_cases cn : c = []
  · subst cn
    rw [lead_nil]
    rfl
  · rw [decide_eq_true cn, Bool.true_and, Bool.and_assoc]
    rfl
end
end Ver
namespace Ver
open PySem PySem.Spec PyProof.Rows L2 Evl
def rep (n : Nat) (w : List Nat) : List Nat := (List.replicate n w).flatten
theorem rep_succ (n : Nat) (w : List Nat) : rep (n + 1) w = rep n w ++ w := by
  unfold rep
  rw [List.replicate_succ', List.flatten_append]
  simp
theorem rep_lenW (w : List Nat) : ∀ n, (rep n w).length = n * w.length
  | 0 => by simp [rep]
  | n + 1 => by rw [rep_succ, List.length_append, rep_lenW w n, Nat.add_mul]; omega
theorem rep_in {w : List Nat} {al : List Nat} (h : ∀ c ∈ w, c ∈ al) (n : Nat) : ∀ c ∈ rep n w, c ∈ al := fun c hc => by
  obtain ⟨l, hl, hc2⟩ := List.mem_flatten.mp hc
  rw [(List.mem_replicate.mp hl).2] at hc2
  exact h c hc2
structure Dk {κ : Type} [DecidableEq κ] (kvs : List (κ × V)) (t : Nat) (k : Nat → κ) : Prop where
  len : kvs.length = t
  there : ∀ s, s < t → valV kvs (k s) = some (.int (s : Int))
  back : ∀ x v, valV kvs x = some v → ∃ s, s < t ∧ x = k s ∧ v = .int (s : Int)
theorem Dk.nil {κ : Type} [DecidableEq κ] {k : Nat → κ} : Dk [] 0 k := ⟨rfl, fun s h => absurd h (Nat.not_lt_zero _), fun x v h => by simp [valV] at h⟩
theorem Dk.put {κ : Type} [DecidableEq κ] {kvs : List (κ × V)} {t : Nat} {k : Nat → κ} (h : Dk kvs t k) (hn : valV kvs (k t) = none) : Dk (putK kvs (k t) (.int (t : Int))) (t + 1) k := by
  refine ⟨by rw [putK_new _ hn, List.length_append, h.len]; rfl, fun s hs => ?_, fun x v hx => ?_⟩
  · rw [valV_put]
    by_cases c : k s = k t
    · rw [if_pos c]
      by_cases z : s < t
      · have := h.there s z
        rw [c, hn] at this
        cases this
      · rw [show s = t by omega]
    · rw [if_neg c]
      by_cases z : s < t
      · exact h.there s z
      · exact absurd (by rw [show s = t by omega]) c
  · rw [valV_put] at hx
    by_cases c : x = k t
    · rw [if_pos c] at hx
      exact ⟨t, by omega, c, (Option.some.inj hx).symm⟩
    · rw [if_neg c] at hx
      obtain ⟨s, h1, h2, h3⟩ := h.back x v hx
      exact ⟨s, by omega, h2, h3⟩
theorem Dk.inj {κ : Type} [DecidableEq κ] {kvs : List (κ × V)} {t : Nat} {k : Nat → κ} (h : Dk kvs t k) {s u : Nat} (hs : s < t) (hu : u < t) (e : k s = k u) : s = u := by
  have h1 := h.there s hs
  have h2 := h.there u hu
  rw [e, h2] at h1
  injection h1 with h1
  injection h1 with h1
  omega
def pr1 (R : Tbl) (al o w : List Nat) (t : Nat) : Nat := fin R al 0 (o ++ rep t w)
theorem pr1_succ (R : Tbl) (al o w : List Nat) (t : Nat) : pr1 R al o w (t + 1) = fin R al (pr1 R al o w t) w := by
  unfold pr1
  rw [rep_succ, ← List.append_assoc, fin_app]
theorem pr1_zero (R : Tbl) (al o w : List Nat) : pr1 R al o w 0 = fin R al 0 o := by
  unfold pr1 rep
  simp
def kT (R1 R2 : Tbl) (al o w : List Nat) (t : Nat) : List Key := [Sum.inl (pr1 R1 al o w t : Int), Sum.inl (pr1 R2 al o w t : Int)]
def kK (R1 R2 : Tbl) (al o w : List Nat) (which t : Nat) : Key := Sum.inl ((if which = 0 then pr1 R1 al o w t else pr1 R2 al o w t : Nat) : Int)
theorem kT_eq {R1 R2 : Tbl} {al o w : List Nat} {s t : Nat} (h : kT R1 R2 al o w s = kT R1 R2 al o w t) : pr1 R1 al o w s = pr1 R1 al o w t ∧ pr1 R2 al o w s = pr1 R2 al o w t := by
  unfold kT at h
  have h1 := Sum.inl.inj (List.cons.inj h).1
  have h2 := Sum.inl.inj (List.cons.inj (List.cons.inj h).2).1
  exact ⟨by omega, by omega⟩
/-- so many different pairs there are -/
theorem pigeon {n1 n2 t : Nat} {f g : Nat → Nat} (hf : ∀ s, s < t → f s < n1) (hg : ∀ s, s < t → g s < n2) (inj : ∀ s u, s < t → u < t → f s = f u → g s = g u → s = u) : t ≤ n1 * n2 := by
  have key : ∀ a b c d, b < n2 → d < n2 → a * n2 + b = c * n2 + d → a = c ∧ b = d := by
    intro a b c d hb hd e
    have h1 : a = c := by
      rcases Nat.lt_trichotomy a c with z | z | z
      · have := Nat.mul_le_mul_right n2 (show a + 1 ≤ c from z)
        rw [Nat.add_mul, Nat.one_mul] at this
        omega
      · exact z
      · have := Nat.mul_le_mul_right n2 (show c + 1 ≤ a from z)
        rw [Nat.add_mul, Nat.one_mul] at this
        omega
    subst h1
    exact ⟨rfl, by omega⟩
  have h := nodup_sub ((List.range t).map fun s => f s * n2 + g s) (List.range (n1 * n2)) (by
    rw [List.Nodup, List.pairwise_map]
    refine List.Pairwise.imp_of_mem (fun {a b} ha hb hab e => ?_) (List.nodup_range (n := t))
    obtain ⟨h1, h2⟩ := key _ _ _ _ (hg a (List.mem_range.mp ha)) (hg b (List.mem_range.mp hb)) e
    exact hab (inj a b (List.mem_range.mp ha) (List.mem_range.mp hb) h1 h2)) fun x hx => by
      obtain ⟨s, hs, rfl⟩ := List.mem_map.mp hx
      have hs := List.mem_range.mp hs
      have h1 := hf s hs
      have h2 := hg s hs
      have := Nat.mul_le_mul_right n2 (show f s + 1 ≤ n1 from h1)
      rw [Nat.add_mul, Nat.one_mul] at this
      exact List.mem_range.mpr (by omega)
  rw [List.length_map, List.length_range, List.length_range] at h
  exact h
theorem s_asgIx {σ : L2.St} {H : Hp} {D : Ends} {te tb : TE} {r : R2} {i : Nat} (h : te σ H fun x H1 => tb σ H1 fun y H2 => r x y H2 fun v H3 => D.nx (σ.set i (some v)) H3) : tAsg (tOp r te tb) (gName i) D σ H := h
theorem et_dnin {σ : L2.St} {H : Hp} {td ty : TE} {a : Addr} {y : V} {o : Option V} (hy : Ev ty σ H y) (hd : Ev td σ H (.ref a)) (hg : ∀ H1, Ex H H1 → DGet H1 a y o) : EvT (tB (tDNotIn ty td)) σ H (!o.isSome) := et_dninK hy hd hg
theorem ev_lenDT {σ : L2.St} {H : Hp} {a : Addr} {kvs : List (List Key × V)} {i : Nat} (e_refl : H a = some (.dT kvs)) (h : σ[i]? = some (some (.ref a)) := by rfl) : Ev (tCB (fun xs H Q => ∃ (p : Addr) (kvs : List (List Key × V)), xs = [.ref p] ∧ H p = some (.dT kvs) ∧ Q (.int ((kvs.length : Nat) : Int)) H) (tCons (tVar i) tNil)) σ H (.int ((kvs.length : Nat) : Int)) := fun H1 e Q q => ev_var h H1 e _ fun H2 e2 => ⟨a, kvs, rfl, (e.trans e2) _ _ e_refl, q H2 e2⟩
theorem ev_lenDK {σ : L2.St} {H : Hp} {a : Addr} {kvs : List (Key × V)} {i : Nat} (e_refl : H a = some (.dK kvs)) (h : σ[i]? = some (some (.ref a)) := by rfl) : Ev (tCB rLenK (tCons (tVar i) tNil)) σ H (.int ((kvs.length : Nat) : Int)) := fun H1 e Q q => ev_var h H1 e _ fun H2 e2 => ⟨a, kvs, rfl, (e.trans e2) _ _ e_refl, q H2 e2⟩
section
variable {P : Program} {w : World} {K : PySem.W.Frag} {mg : Str → Option Value} {base : Heap} {C_Machine : Addr}
def spLp : Sp := fun vs H Q _ => ∃ (al o u : List Nat) (R1 R2 : Tbl) (x y : V) (wh : Nat), vs = [tx al, x, y, tx o, tx u, .int (wh : Int)] ∧ Rc al R1 R2 ∧ TabP R1 H x ∧ TabP R2 H y ∧ (∀ z ∈ o, z ∈ al) ∧ (∀ z ∈ u, z ∈ al) ∧ o.length ≤ 400 ∧ u.length ≤ 4 ∧ wh ≤ 2 ∧
  (¬ (wh = 2 ∧ o.length + u.length * (R1.length * R2.length) ≤ 400 ∧ R1.length * R2.length ≤ 400) → RetV .non H Q) ∧
  ∀ i n, (wh = 2 → 1 ≤ n ∧ pr1 R1 al o u i = pr1 R1 al o u (i + n) ∧ pr1 R2 al o u i = pr1 R2 al o u (i + n)) → (o ++ rep i u).length ≤ 400 → (rep n u).length ≤ 400 → RetL [tx (o ++ rep i u), tx (rep n u)] H Q
theorem has_lp (F : At K mg "_law_loop" s__law_loop) (T : Top K mg C_Machine) (h1 : Has P w K mg base "_law_race" s__law_race ["alphabet", "this", "that", "text", "opening"] 1 spRace) : Has P w K mg base "_law_loop" s__law_loop ["alphabet", "this", "that", "opening", "word", "which"] 2 spLp := by
  obtain ⟨f, fd, F, m⟩ := F.ex
  obtain ⟨f1, fd1, _, G__law_race, b__law_race, m__law_race, k__law_race⟩ := h1
  refine ⟨f, fd, F, F.ok S__law_loop (fun vs H Q E h => ?_) (fun cdv A outer s H vs Q E hr h => ?_), F.binds fun _ _ _ _ _ _ us hl => match us, hl with | [_, _, _, _, _, _], _ => rfl, m, F.kp⟩
  · obtain ⟨al, o, u, R1, R2, x, y, wh, rfl, _⟩ := h
    rfl
  obtain ⟨al, o, u, R1, R2, x, y, wh, rfl, rc, hx, hy, ho, hu, zo, zu, wh2, hN, hL⟩ := h
  have oin : ∀ t, ∀ c ∈ o ++ rep t u, c ∈ al := fun t c hc => (List.mem_append.mp hc).elim (ho c) (rep_in hu t c)
  have p1lt : ∀ t, pr1 R1 al o u t < R1.length := fun t => fin_lt rc.o1 _ 0 rc.o1.pos (oin t)
  have p2lt : ∀ t, pr1 R2 al o u t < R2.length := fun t => fin_lt rc.o2 _ 0 rc.o2.pos (oin t)
  by_cases c2 : wh = 2
  · subst c2
    refine ⟨_, (pss_cons
    (ps_set (i := 6) S__law_loop.nd rfl (Or.inl rfl) pe_dnewT)
    (pss_cons
    (ps_set (i := 7) S__law_loop.nd rfl (Or.inl rfl) (pe_ix (r := rIxL K) ix_list (pe_call G__law_race (hr.mono (by decide)) rfl m__law_race k__law_race b__law_race .nil pass0 (pa_cons (pv 0) (pa_cons (pv 1) (pa_cons (pv 2) (pa_cons (pv 3) (pa_cons (pe_tup (pa_cons pe_int (pa_cons pe_int pa_nil))) pa_nil)))))) pe_int (fun _ _ => rfl)))
    (pss_cut
    (ps_for PassesOwn.never rfl (pi_range1 rfl T.z_range (pa_cons pe_int pa_nil)) (pg_name (i := 8) S__law_loop.nd rfl (Or.inl rfl)) (pss_cons
    (ps_set (i := 9) S__law_loop.nd rfl (Or.inl rfl) (pv 7))
    (pss_cons
    (ps_if (pt_cmpR op_lt (pv 5) pe_int (nomark _)) (pss_one
    (ps_set (i := 9) S__law_loop.nd rfl (Or.inl rfl) (pe_ix (r := rIxT K) ix_tup (pv 7) (pv 5) (fun _ _ => rfl)))) pss_nil)
    (pss_cons
    (ps_if (pt_cmp (pc_din (hu_of hr) (pv 9) (pv 6))) (pss_one
    ps_break) pss_nil)
    (pss_cons
    (ps_dput (hu_of hr) (pv 6) (pv 9) (pv 8) rfl)
    (pss_one
    (ps_set (i := 7) S__law_loop.nd rfl (Or.inl rfl) (pe_ix (r := rIxL K) ix_list (pe_call G__law_race (hr.mono (by decide)) rfl m__law_race k__law_race b__law_race .nil pass0 (pa_cons (pv 0) (pa_cons (pv 1) (pa_cons (pv 2) (pa_cons (pv 4) (pa_cons (pv 7) pa_nil)))))) pe_int (fun _ _ => rfl)))))))))
    (pss_cons
    (ps_set (i := 9) S__law_loop.nd rfl (Or.inl rfl) (pv 7))
    (pss_cons
    (ps_if (pt_cmpR op_lt (pv 5) pe_int (nomark _)) (pss_one
    (ps_set (i := 9) S__law_loop.nd rfl (Or.inl rfl) (pe_ix (r := rIxT K) ix_tup (pv 7) (pv 5) (fun _ _ => rfl)))) pss_nil)
    (pss_cons
    (ps_if (pt_cmp (pc_dnotin (hu_of hr) (pv 9) (pv 6))) (pss_one
    (ps_ret pe_non)) pss_nil)
    (pss_cons
    (ps_set (i := 10) S__law_loop.nd rfl (Or.inl rfl) (pe_lst (pa_cons (pe_op op_add_str (pv 3) (pe_op op_mulS (pv 4) (pe_dget (hu_of hr) (pv 6) (pv 9) (fun _ _ => rfl)))) (pa_cons (pe_op op_mulS (pv 4) (pe_op op_sub (pe_callB call_len_dT rfl T.z_len PySem.boot_len (pa_cons (pv 6) pa_nil)) (pe_dget (hu_of hr) (pv 6) (pv 9) (fun _ _ => rfl)))) pa_nil))))
    (pss_cons
    (ps_if (PW.pt (pw_or (pt_cmpR op_gt (pe_callB call_len_str rfl T.z_len PySem.boot_len (pa_cons (pe_ix (r := rIxL K) ix_list (pv 10) pe_int (fun _ _ => rfl)) pa_nil)) pe_int (nomark _)) (pw_or1 (pt_cmpR op_gt (pe_callB call_len_str rfl T.z_len PySem.boot_len (pa_cons (pe_ix (r := rIxL K) ix_list (pv 10) pe_int (fun _ _ => rfl)) pa_nil)) pe_int (nomark _))))) (pss_one
    (ps_ret pe_non)) pss_nil)
    (pss_one
    (ps_ret (pv 10))))))))))), ?_⟩
    refine q_newT fun d H1 hd e1 h1 => ?_
    refine q_asgIx (i := 7) (run_race0 (ev_var rfl) (ev_var rfl) (ev_var rfl) (ev_var rfl) rc (tab_sol.mono e1 hx) (tab_sol.mono e1 hy) ho (by omega) fun p q0 H2 hp e2 k1 k2 => ?_)
    refine ev_c H2 (Ex.refl H2) _ fun H3 e3 => rv_ixL (v := .ref q0) (sq_of (e3 _ _ k1)) (atI_nat (j := 1) rfl) H3 (Ex.refl H3) _ fun H4 e4 => ?_
    have e14 := (e2.trans e3).trans e4
    have k4 := e4 _ _ (e3 _ _ k2)
    rw [← pr1_zero R1 al o u, ← pr1_zero R2 al o u] at k4
    refine q_cut (M := fun σ' H' => ∃ (t : Nat) (q : Addr) (u8 u9 : Option V) (kvs : List (List Key × V)), σ' = [some (tx al), some x, some y, some (tx o), some (tx u), some (.int 2), some (.ref d), some (.ref q), u8, u9, none] ∧ Ex H H' ∧ t ≤ 401 ∧ H' d = some (.dT kvs) ∧ Dk kvs t (kT R1 R2 al o u) ∧ H' q = some (.tup [.int (pr1 R1 al o u t : Int), .int (pr1 R2 al o u t : Int)]) ∧ (t = 401 ∨ (valV kvs ((kT R1 R2 al o u) t)).isSome = true)) ?_ ?_
    · refine s_forR1 (ea_cons ev_c ea_nil) (by decide) (fun t σ' H' => ∃ (q : Addr) (u8 u9 : Option V) (kvs : List (List Key × V)), σ' = [some (tx al), some x, some y, some (tx o), some (tx u), some (.int 2), some (.ref d), some (.ref q), u8, u9, none] ∧ Ex H H' ∧ H' d = some (.dT kvs) ∧ Dk kvs t (kT R1 R2 al o u) ∧ H' q = some (.tup [.int (pr1 R1 al o u t : Int), .int (pr1 R2 al o u t : Int)])) ?_ ?_ ?_
      · intro H5 e5
        exact ⟨q0, none, none, [], rfl, (e1.trans e14).trans e5, e5 _ _ (e14 _ _ h1), .nil, e5 _ _ k4⟩
      · rintro t σ' H' ht ⟨q, u8, u9, kvs, rfl, e5, hd5, dk, hq⟩
        refine q_asg (v := .ref q) (ev_var rfl) fun H5 e6 => ?_
        refine q_skip (et_is (et_lt (ev_var rfl) ev_c) rfl) fun H6 e7 => ?_
        have e57 := (e5.trans e6).trans e7
        have hd7 := e7 _ _ (e6 _ _ hd5)
        have hq7 := e7 _ _ (e6 _ _ hq)
        refine q_when (et_din (o := valV kvs ((kT R1 R2 al o u) t)) (ev_var rfl) (ev_var rfl) fun H7 e8 => DGet.t (k := kT R1 R2 al o u t) (e8 _ _ hd7) (e8 _ _ hq7)) (fun hb H7 e8 => ?_) (fun hb H7 e8 => ?_)
        · exact ⟨t, q, _, _, kvs, rfl, e57.trans e8, by omega, e8 _ _ hd7, dk, e8 _ _ hq7, .inr hb⟩
        · have hnone : valV kvs ((kT R1 R2 al o u) t) = none := by
            cases hh : valV kvs ((kT R1 R2 al o u) t) with
            | none => rfl
            | some v => rw [hh] at hb; cases hb
          have kl := dk.len
          refine q_dput (v := .int (t : Int)) (y := (.ref q)) (g := fun H8 => L2.upd H8 d (.dT (putK kvs ((kT R1 R2 al o u) t) (.int (t : Int))))) (ev_var rfl) (ev_var rfl) (ev_var rfl) (fun H8 e9 => DPut.t (k := kT R1 R2 al o u t) (e9 _ _ (e8 _ _ hd7)) (e9 _ _ (e8 _ _ hq7)) (sz_lt (by omega))) fun H8 e9 => ?_
          have e59 := ((e57.trans e8).trans e9).mut (o := .dT (putK kvs ((kT R1 R2 al o u) t) (.int (t : Int)))) hd
          have hq9 : (L2.upd H8 d (.dT (putK kvs ((kT R1 R2 al o u) t) (.int (t : Int))))) q = some (.tup [.int (pr1 R1 al o u t : Int), .int (pr1 R2 al o u t : Int)]) := by
            rw [upd_ne (ne_of hq7 hd7 (by intro z; cases z))]
            exact e9 _ _ (e8 _ _ hq7)
          have hd9 : (L2.upd H8 d (.dT (putK kvs ((kT R1 R2 al o u) t) (.int (t : Int))))) d = some (.dT (putK kvs ((kT R1 R2 al o u) t) (.int (t : Int)))) := upd_same
          generalize L2.upd H8 d (.dT (putK kvs ((kT R1 R2 al o u) t) (.int (t : Int)))) = G at e59 hq9 hd9 ⊢
          refine s_asgIx (i := 7) ((ea_cons (ev_var (v := tx al) rfl) (ea_cons (ev_var (v := x) rfl) (ea_cons (ev_var (v := y) rfl) (ea_cons (ev_var (v := tx u) rfl) (ea_cons (ev_var (v := .ref q) rfl) ea_nil))))) G (Ex.refl G) _ fun H9 e10 => ⟨al, u, R1, R2, x, y, q, _, _, rfl, rc, tab_sol.mono (e59.trans e10) hx, tab_sol.mono (e59.trans e10) hy, e10 _ _ hq9, p1lt t, p2lt t, hu, by omega, fun p2 q2 H10 hp2 e11 j1 j2 => ?_⟩)
          refine ev_c H10 (Ex.refl H10) _ fun H11 e12 => rv_ixL (v := .ref q2) (sq_of (e12 _ _ j1)) (atI_nat (j := 1) rfl) H11 (Ex.refl H11) _ fun H12 e13 => ?_
          rw [← pr1_succ, ← pr1_succ] at j2
          have e1013 := (e10.trans e11).trans (e12.trans e13)
          exact ⟨q2, _, _, _, rfl, e59.trans e1013, e1013 _ _ hd9, dk.put hnone, e13 _ _ (e12 _ _ j2)⟩
      · rintro σ' H' ⟨q, u8, u9, kvs, rfl, e5, hd5, dk, hq⟩
        exact ⟨401, q, u8, u9, kvs, rfl, e5, Nat.le_refl _, hd5, dk, hq, .inl rfl⟩
    · rintro σ' H' ⟨t, q, u8, u9, kvs, rfl, e5, t4, hd5, dk, hq, hend⟩
      refine q_asg (v := .ref q) (ev_var rfl) fun H5 e6 => ?_
      refine q_skip (et_is (et_lt (ev_var rfl) ev_c) rfl) fun H6 e7 => ?_
      have e57 := (e5.trans e6).trans e7
      have hd7 := e7 _ _ (e6 _ _ hd5)
      have hq7 := e7 _ _ (e6 _ _ hq)
      have hpig : t ≤ R1.length * R2.length := pigeon (f := pr1 R1 al o u) (g := pr1 R2 al o u) (fun s _ => p1lt s) (fun s _ => p2lt s) fun s r hs hr e1 e2 => dk.inj hs hr (by unfold kT; rw [e1, e2])
      refine q_when (et_dnin (o := valV kvs ((kT R1 R2 al o u) t)) (ev_var rfl) (ev_var rfl) fun H7 e8 => DGet.t (k := kT R1 R2 al o u t) (e8 _ _ hd7) (e8 _ _ hq7)) (fun hb H7 e8 => ?_) (fun hb H7 e8 => ?_)
      · refine s_ret ev_c fun H8 e9 => hN (fun hc => ?_) H8 ((e57.trans e8).trans e9)
        rcases hend with z | z
        · have := hc.2.2
          omega
        · rw [z] at hb
          cases hb
      · have hsome : ∃ v, valV kvs ((kT R1 R2 al o u) t) = some v := by
          cases hh : valV kvs ((kT R1 R2 al o u) t) with
          | none => rw [hh] at hb; cases hb
          | some v => exact ⟨v, rfl⟩
        obtain ⟨v, hv⟩ := hsome
        obtain ⟨sx, hs, hks, rfl⟩ := dk.back _ _ hv
        have hd8 := e8 _ _ hd7
        have hq8 := e8 _ _ hq7
        have gk : ∀ {σ : L2.St} {H' : Hp}, Ex H7 H' → σ[6]? = some (some (.ref d)) → σ[9]? = some (some (.ref q)) → Ev (tDGet (tVar 6) (tVar 9)) σ H' (.int (sx : Int)) := fun {σ H'} e h6 h9 => ev_dget (ev_var h6) (ev_var h9) fun H9 e9 => by
          have hd7 := e9 _ _ (e _ _ hd8)
          have hq7 := e9 _ _ (e _ _ hq8)
          have g := DGet.t (k := kT R1 R2 al o u t) hd7 hq7
          rw [hv] at g
          exact g
        have rl1 := rep_lenW u sx
        have rl2 := rep_lenW u (t - sx)
        have m1 : sx * u.length ≤ 401 * 4 := Nat.mul_le_mul (by omega) zu
        have m2 : (t - sx) * u.length ≤ 401 * 4 := Nat.mul_le_mul (by omega) zu
        refine q_asgL (xs := [tx (o ++ rep sx u), tx (rep (t - sx) u)]) (el_lst (ea_cons (ev_catS (a := o) (b := rep sx u) (by omega) (ev_var rfl) (ev_mulS (l := u) (n := sx) (by omega) (by rw [Nat.mul_comm]; omega) (ev_var rfl) (gk (Ex.refl _) rfl rfl))) (ea_cons (ev_mulS (l := u) (n := t - sx) (by omega) (by rw [Nat.mul_comm]; omega) (ev_var rfl) (ev_is (ev_sub (ev_lenDT (e_refl := hd8)) (gk (Ex.refl _) rfl rfl)) (by rw [dk.len]; congr 1; omega))) ea_nil)) (by show 2 ≤ 100000; decide)) fun tl H8 htl e9 g9 => ?_
        have e59 := (e57.trans e8).trans e9
        have tt0 : ∀ {σ : L2.St} {H' : Hp}, Ex H8 H' → σ[10]? = some (some (.ref tl)) → Ev (tOp (rIxL K) (tVar 10) (tC (.int 0))) σ H' (tx (o ++ rep sx u)) := fun e h => ev_op (ev_var h) ev_c (rv_ixL (sq_of (e _ _ g9)) (atI_nat (j := 0) rfl))
        have tt1 : ∀ {σ : L2.St} {H' : Hp}, Ex H8 H' → σ[10]? = some (some (.ref tl)) → Ev (tOp (rIxL K) (tVar 10) (tC (.int 1))) σ H' (tx (rep (t - sx) u)) := fun e h => ev_op (ev_var h) ev_c (rv_ixL (sq_of (e _ _ g9)) (atI_nat (j := 1) rfl))
        have la : (o ++ rep sx u).length = o.length + sx * u.length := by rw [List.length_append, rl1]
        refine q_when (et_or (et_gt (ev_lenS (l := o ++ rep sx u) (by omega) (tt0 (Ex.refl _) rfl)) ev_c) fun _ => et_gt (ev_lenS (l := rep (t - sx) u) (by omega) (tt1 (Ex.refl _) rfl)) ev_c) (fun hb2 H9 e10 => ?_) (fun hb2 H9 e10 => ?_)
        · refine s_ret ev_c fun H10 e11 => hN (fun hc => ?_) H10 ((e59.trans e10).trans e11)
          have h1 : sx * u.length ≤ u.length * (R1.length * R2.length) := by rw [Nat.mul_comm]; exact Nat.mul_le_mul_left _ (by omega)
          have h2 : (t - sx) * u.length ≤ u.length * (R1.length * R2.length) := by rw [Nat.mul_comm]; exact Nat.mul_le_mul_left _ (by omega)
          have h3 := hc.2.1
          rw [Bool.or_eq_true] at hb2
          rcases hb2 with z | z
          · have := of_decide_eq_true z
            omega
          · have := of_decide_eq_true z
            omega
        · rw [Bool.or_eq_false_iff] at hb2
          have b1 := of_decide_eq_false hb2.1
          have b2 := of_decide_eq_false hb2.2
          refine s_ret (ev_var rfl) fun H10 e11 => ?_
          refine hL sx (t - sx) (fun hw => ?_) (by omega) (by omega) tl H10 (fresh_back (e57.trans e8) htl) ((e59.trans e10).trans e11) (e11 _ _ (e10 _ _ g9))
          obtain ⟨y1, y2⟩ := kT_eq hks
          rw [show sx + (t - sx) = t by omega]
          exact ⟨by omega, y1.symm, y2.symm⟩
  · have c3 : wh = 0 ∨ wh = 1 := by omega
    refine ⟨_, (pss_cons
    (ps_set (i := 6) S__law_loop.nd rfl (Or.inl rfl) pe_dnewK)
    (pss_cons
    (ps_set (i := 7) S__law_loop.nd rfl (Or.inl rfl) (pe_ix (r := rIxL K) ix_list (pe_call G__law_race (hr.mono (by decide)) rfl m__law_race k__law_race b__law_race .nil pass0 (pa_cons (pv 0) (pa_cons (pv 1) (pa_cons (pv 2) (pa_cons (pv 3) (pa_cons (pe_tup (pa_cons pe_int (pa_cons pe_int pa_nil))) pa_nil)))))) pe_int (fun _ _ => rfl)))
    (pss_cut
    (ps_for PassesOwn.never rfl (pi_range1 rfl T.z_range (pa_cons pe_int pa_nil)) (pg_name (i := 8) S__law_loop.nd rfl (Or.inl rfl)) (pss_cons
    (ps_set (i := 9) S__law_loop.nd rfl (Or.inl rfl) (pv 7))
    (pss_cons
    (ps_if (pt_cmpR op_lt (pv 5) pe_int (nomark _)) (pss_one
    (ps_set (i := 9) S__law_loop.nd rfl (Or.inl rfl) (pe_ix (r := rIxT K) ix_tup (pv 7) (pv 5) (fun _ _ => rfl)))) pss_nil)
    (pss_cons
    (ps_if (pt_cmp (pc_din (hu_of hr) (pv 9) (pv 6))) (pss_one
    ps_break) pss_nil)
    (pss_cons
    (ps_dput (hu_of hr) (pv 6) (pv 9) (pv 8) rfl)
    (pss_one
    (ps_set (i := 7) S__law_loop.nd rfl (Or.inl rfl) (pe_ix (r := rIxL K) ix_list (pe_call G__law_race (hr.mono (by decide)) rfl m__law_race k__law_race b__law_race .nil pass0 (pa_cons (pv 0) (pa_cons (pv 1) (pa_cons (pv 2) (pa_cons (pv 4) (pa_cons (pv 7) pa_nil)))))) pe_int (fun _ _ => rfl)))))))))
    (pss_cons
    (ps_set (i := 9) S__law_loop.nd rfl (Or.inl rfl) (pv 7))
    (pss_cons
    (ps_if (pt_cmpR op_lt (pv 5) pe_int (nomark _)) (pss_one
    (ps_set (i := 9) S__law_loop.nd rfl (Or.inl rfl) (pe_ix (r := rIxT K) ix_tup (pv 7) (pv 5) (fun _ _ => rfl)))) pss_nil)
    (pss_cons
    (ps_if (pt_cmp (pc_dnotin (hu_of hr) (pv 9) (pv 6))) (pss_one
    (ps_ret pe_non)) pss_nil)
    (pss_cons
    (ps_set (i := 10) S__law_loop.nd rfl (Or.inl rfl) (pe_lst (pa_cons (pe_op op_add_str (pv 3) (pe_op op_mulS (pv 4) (pe_dget (hu_of hr) (pv 6) (pv 9) (fun _ _ => rfl)))) (pa_cons (pe_op op_mulS (pv 4) (pe_op op_sub (pe_callB call_len_dK rfl T.z_len PySem.boot_len (pa_cons (pv 6) pa_nil)) (pe_dget (hu_of hr) (pv 6) (pv 9) (fun _ _ => rfl)))) pa_nil))))
    (pss_cons
    (ps_if (PW.pt (pw_or (pt_cmpR op_gt (pe_callB call_len_str rfl T.z_len PySem.boot_len (pa_cons (pe_ix (r := rIxL K) ix_list (pv 10) pe_int (fun _ _ => rfl)) pa_nil)) pe_int (nomark _)) (pw_or1 (pt_cmpR op_gt (pe_callB call_len_str rfl T.z_len PySem.boot_len (pa_cons (pe_ix (r := rIxL K) ix_list (pv 10) pe_int (fun _ _ => rfl)) pa_nil)) pe_int (nomark _))))) (pss_one
    (ps_ret pe_non)) pss_nil)
    (pss_one
    (ps_ret (pv 10))))))))))), ?_⟩
    refine q_newK fun d H1 hd e1 h1 => ?_
    refine q_asgIx (i := 7) (run_race0 (ev_var rfl) (ev_var rfl) (ev_var rfl) (ev_var rfl) rc (tab_sol.mono e1 hx) (tab_sol.mono e1 hy) ho (by omega) fun p q0 H2 hp e2 k1 k2 => ?_)
    refine ev_c H2 (Ex.refl H2) _ fun H3 e3 => rv_ixL (v := .ref q0) (sq_of (e3 _ _ k1)) (atI_nat (j := 1) rfl) H3 (Ex.refl H3) _ fun H4 e4 => ?_
    have e14 := (e2.trans e3).trans e4
    have k4 := e4 _ _ (e3 _ _ k2)
    rw [← pr1_zero R1 al o u, ← pr1_zero R2 al o u] at k4
    refine q_cut (M := fun σ' H' => ∃ (t : Nat) (q : Addr) (u8 u9 : Option V) (kvs : List (Key × V)), σ' = [some (tx al), some x, some y, some (tx o), some (tx u), some (.int (wh : Int)), some (.ref d), some (.ref q), u8, u9, none] ∧ Ex H H' ∧ t ≤ 401 ∧ H' d = some (.dK kvs) ∧ Dk kvs t (kK R1 R2 al o u wh) ∧ H' q = some (.tup [.int (pr1 R1 al o u t : Int), .int (pr1 R2 al o u t : Int)]) ∧ (t = 401 ∨ (valV kvs ((kK R1 R2 al o u wh) t)).isSome = true)) ?_ ?_
    · refine s_forR1 (ea_cons ev_c ea_nil) (by decide) (fun t σ' H' => ∃ (q : Addr) (u8 u9 : Option V) (kvs : List (Key × V)), σ' = [some (tx al), some x, some y, some (tx o), some (tx u), some (.int (wh : Int)), some (.ref d), some (.ref q), u8, u9, none] ∧ Ex H H' ∧ H' d = some (.dK kvs) ∧ Dk kvs t (kK R1 R2 al o u wh) ∧ H' q = some (.tup [.int (pr1 R1 al o u t : Int), .int (pr1 R2 al o u t : Int)])) ?_ ?_ ?_
      · intro H5 e5
        exact ⟨q0, none, none, [], rfl, (e1.trans e14).trans e5, e5 _ _ (e14 _ _ h1), .nil, e5 _ _ k4⟩
      · rintro t σ' H' ht ⟨q, u8, u9, kvs, rfl, e5, hd5, dk, hq⟩
        refine q_asg (v := .ref q) (ev_var rfl) fun H5 e6 => ?_
        refine q_ifAsg (b := true) (v := (.int ((if wh = 0 then pr1 R1 al o u t else pr1 R2 al o u t : Nat) : Int))) (et_is (et_lt (ev_var rfl) ev_c) (decide_eq_true (by omega))) (fun _ => ev_op (ev_var rfl) (ev_var rfl) (rv_ixT (st_of (e6 _ _ hq)) (by rcases c3 with rfl | rfl <;> rfl))) (fun z => nomatch z) fun H6 e7 => ?_
        have e57 := (e5.trans e6).trans e7
        have hd7 := e7 _ _ (e6 _ _ hd5)
        have hq7 := e7 _ _ (e6 _ _ hq)
        refine q_when (et_din (o := valV kvs ((kK R1 R2 al o u wh) t)) (ev_var rfl) (ev_var rfl) fun H7 e8 => DGet.k (k := kK R1 R2 al o u wh t) (e8 _ _ hd7)) (fun hb H7 e8 => ?_) (fun hb H7 e8 => ?_)
        · exact ⟨t, q, _, _, kvs, rfl, e57.trans e8, by omega, e8 _ _ hd7, dk, e8 _ _ hq7, .inr hb⟩
        · have hnone : valV kvs ((kK R1 R2 al o u wh) t) = none := by
            cases hh : valV kvs ((kK R1 R2 al o u wh) t) with
            | none => rfl
            | some v => rw [hh] at hb; cases hb
          have kl := dk.len
          refine q_dput (v := .int (t : Int)) (y := (.int ((if wh = 0 then pr1 R1 al o u t else pr1 R2 al o u t : Nat) : Int))) (g := fun H8 => L2.upd H8 d (.dK (putK kvs ((kK R1 R2 al o u wh) t) (.int (t : Int))))) (ev_var rfl) (ev_var rfl) (ev_var rfl) (fun H8 e9 => DPut.k (k := kK R1 R2 al o u wh t) (e9 _ _ (e8 _ _ hd7)) (sz_lt (by omega))) fun H8 e9 => ?_
          have e59 := ((e57.trans e8).trans e9).mut (o := .dK (putK kvs ((kK R1 R2 al o u wh) t) (.int (t : Int)))) hd
          have hq9 : (L2.upd H8 d (.dK (putK kvs ((kK R1 R2 al o u wh) t) (.int (t : Int))))) q = some (.tup [.int (pr1 R1 al o u t : Int), .int (pr1 R2 al o u t : Int)]) := by
            rw [upd_ne (ne_of hq7 hd7 (by intro z; cases z))]
            exact e9 _ _ (e8 _ _ hq7)
          have hd9 : (L2.upd H8 d (.dK (putK kvs ((kK R1 R2 al o u wh) t) (.int (t : Int))))) d = some (.dK (putK kvs ((kK R1 R2 al o u wh) t) (.int (t : Int)))) := upd_same
          generalize L2.upd H8 d (.dK (putK kvs ((kK R1 R2 al o u wh) t) (.int (t : Int)))) = G at e59 hq9 hd9 ⊢
          refine s_asgIx (i := 7) ((ea_cons (ev_var (v := tx al) rfl) (ea_cons (ev_var (v := x) rfl) (ea_cons (ev_var (v := y) rfl) (ea_cons (ev_var (v := tx u) rfl) (ea_cons (ev_var (v := .ref q) rfl) ea_nil))))) G (Ex.refl G) _ fun H9 e10 => ⟨al, u, R1, R2, x, y, q, _, _, rfl, rc, tab_sol.mono (e59.trans e10) hx, tab_sol.mono (e59.trans e10) hy, e10 _ _ hq9, p1lt t, p2lt t, hu, by omega, fun p2 q2 H10 hp2 e11 j1 j2 => ?_⟩)
          refine ev_c H10 (Ex.refl H10) _ fun H11 e12 => rv_ixL (v := .ref q2) (sq_of (e12 _ _ j1)) (atI_nat (j := 1) rfl) H11 (Ex.refl H11) _ fun H12 e13 => ?_
          rw [← pr1_succ, ← pr1_succ] at j2
          have e1013 := (e10.trans e11).trans (e12.trans e13)
          exact ⟨q2, _, _, _, rfl, e59.trans e1013, e1013 _ _ hd9, dk.put hnone, e13 _ _ (e12 _ _ j2)⟩
      · rintro σ' H' ⟨q, u8, u9, kvs, rfl, e5, hd5, dk, hq⟩
        exact ⟨401, q, u8, u9, kvs, rfl, e5, Nat.le_refl _, hd5, dk, hq, .inl rfl⟩
    · rintro σ' H' ⟨t, q, u8, u9, kvs, rfl, e5, t4, hd5, dk, hq, hend⟩
      refine q_asg (v := .ref q) (ev_var rfl) fun H5 e6 => ?_
      refine q_ifAsg (b := true) (v := (.int ((if wh = 0 then pr1 R1 al o u t else pr1 R2 al o u t : Nat) : Int))) (et_is (et_lt (ev_var rfl) ev_c) (decide_eq_true (by omega))) (fun _ => ev_op (ev_var rfl) (ev_var rfl) (rv_ixT (st_of (e6 _ _ hq)) (by rcases c3 with rfl | rfl <;> rfl))) (fun z => nomatch z) fun H6 e7 => ?_
      have e57 := (e5.trans e6).trans e7
      have hd7 := e7 _ _ (e6 _ _ hd5)
      have hq7 := e7 _ _ (e6 _ _ hq)
      skip
      refine q_when (et_dnin (o := valV kvs ((kK R1 R2 al o u wh) t)) (ev_var rfl) (ev_var rfl) fun H7 e8 => DGet.k (k := kK R1 R2 al o u wh t) (e8 _ _ hd7)) (fun hb H7 e8 => ?_) (fun hb H7 e8 => ?_)
      · refine s_ret ev_c fun H8 e9 => hN (fun hc => ?_) H8 ((e57.trans e8).trans e9)
        exact c2 hc.1
      · have hsome : ∃ v, valV kvs ((kK R1 R2 al o u wh) t) = some v := by
          cases hh : valV kvs ((kK R1 R2 al o u wh) t) with
          | none => rw [hh] at hb; cases hb
          | some v => exact ⟨v, rfl⟩
        obtain ⟨v, hv⟩ := hsome
        obtain ⟨sx, hs, hks, rfl⟩ := dk.back _ _ hv
        have hd8 := e8 _ _ hd7
        have hq8 := e8 _ _ hq7
        have gk : ∀ {σ : L2.St} {H' : Hp}, Ex H7 H' → σ[6]? = some (some (.ref d)) → σ[9]? = some (some (.int ((if wh = 0 then pr1 R1 al o u t else pr1 R2 al o u t : Nat) : Int))) → Ev (tDGet (tVar 6) (tVar 9)) σ H' (.int (sx : Int)) := fun {σ H'} e h6 h9 => ev_dget (ev_var h6) (ev_var h9) fun H9 e9 => by
          have hd7 := e9 _ _ (e _ _ hd8)
          have hq7 := e9 _ _ (e _ _ hq8)
          have g := DGet.k (k := kK R1 R2 al o u wh t) hd7
          rw [hv] at g
          exact g
        have rl1 := rep_lenW u sx
        have rl2 := rep_lenW u (t - sx)
        have m1 : sx * u.length ≤ 401 * 4 := Nat.mul_le_mul (by omega) zu
        have m2 : (t - sx) * u.length ≤ 401 * 4 := Nat.mul_le_mul (by omega) zu
        refine q_asgL (xs := [tx (o ++ rep sx u), tx (rep (t - sx) u)]) (el_lst (ea_cons (ev_catS (a := o) (b := rep sx u) (by omega) (ev_var rfl) (ev_mulS (l := u) (n := sx) (by omega) (by rw [Nat.mul_comm]; omega) (ev_var rfl) (gk (Ex.refl _) rfl rfl))) (ea_cons (ev_mulS (l := u) (n := t - sx) (by omega) (by rw [Nat.mul_comm]; omega) (ev_var rfl) (ev_is (ev_sub (ev_lenDK (e_refl := hd8)) (gk (Ex.refl _) rfl rfl)) (by rw [dk.len]; congr 1; omega))) ea_nil)) (by show 2 ≤ 100000; decide)) fun tl H8 htl e9 g9 => ?_
        have e59 := (e57.trans e8).trans e9
        have tt0 : ∀ {σ : L2.St} {H' : Hp}, Ex H8 H' → σ[10]? = some (some (.ref tl)) → Ev (tOp (rIxL K) (tVar 10) (tC (.int 0))) σ H' (tx (o ++ rep sx u)) := fun e h => ev_op (ev_var h) ev_c (rv_ixL (sq_of (e _ _ g9)) (atI_nat (j := 0) rfl))
        have tt1 : ∀ {σ : L2.St} {H' : Hp}, Ex H8 H' → σ[10]? = some (some (.ref tl)) → Ev (tOp (rIxL K) (tVar 10) (tC (.int 1))) σ H' (tx (rep (t - sx) u)) := fun e h => ev_op (ev_var h) ev_c (rv_ixL (sq_of (e _ _ g9)) (atI_nat (j := 1) rfl))
        have la : (o ++ rep sx u).length = o.length + sx * u.length := by rw [List.length_append, rl1]
        refine q_when (et_or (et_gt (ev_lenS (l := o ++ rep sx u) (by omega) (tt0 (Ex.refl _) rfl)) ev_c) fun _ => et_gt (ev_lenS (l := rep (t - sx) u) (by omega) (tt1 (Ex.refl _) rfl)) ev_c) (fun hb2 H9 e10 => ?_) (fun hb2 H9 e10 => ?_)
        · refine s_ret ev_c fun H10 e11 => hN (fun hc => ?_) H10 ((e59.trans e10).trans e11)
          exact c2 hc.1
        · rw [Bool.or_eq_false_iff] at hb2
          have b1 := of_decide_eq_false hb2.1
          have b2 := of_decide_eq_false hb2.2
          refine s_ret (ev_var rfl) fun H10 e11 => ?_
          refine hL sx (t - sx) (fun hw => ?_) (by omega) (by omega) tl H10 (fresh_back (e57.trans e8) htl) ((e59.trans e10).trans e11) (e11 _ _ (e10 _ _ g9))
          exact absurd hw c2
end
end Ver
namespace Ver
open PySem PySem.Spec PyProof.Rows L2 Evl
def EvALL (ta : TA) (σ : L2.St) (H : Hp) (as : List (List V)) : Prop := ∀ H1, Ex H H1 → ∀ Q : List V → Hp → Prop, (∀ vs H2, Ex H1 H2 → LLs H2 vs as → Q vs H2) → ta σ H1 Q
theorem ell_nil {σ : L2.St} {H : Hp} : EvALL tNil σ H [] := fun H1 e Q q => q [] H1 (Ex.refl H1) ⟨rfl, fun i a h => by simp at h⟩
theorem ell_cons {σ : L2.St} {H : Hp} {te : TE} {tr : TA} {xs : List V} {as : List (List V)} (h : EvL te σ H xs) (g : EvALL tr σ H as) : EvALL (tCons te tr) σ H (xs :: as) := fun H1 e Q q =>
  h H1 e _ fun p H2 hp e2 h2 => g H2 (e.trans e2) _ fun vs H3 e3 h3 => q _ H3 (e2.trans e3) ⟨by simp [h3.len], fun i a q' => by
    match i, q' with
    | 0, q' =>
      cases q'
      exact ⟨p, rfl, e3 _ _ h2⟩
    | i + 1, q' => exact h3.at_ i a q'⟩
theorem ell_lst {σ : L2.St} {H : Hp} {ta : TA} {as : List (List V)} (h : EvALL ta σ H as) (hl : as.length ≤ 1000) : EvLL (tLst ta) σ H as := fun H1 e Q q =>
  h H1 e _ fun vs H2 e2 h2 => ⟨sz_of (by rw [h2.len]; omega), fun p hp => q p vs _ (fresh_back e2 hp) (e2.trans (Ex.new hp)) upd_same (h2.mono (Ex.new hp))⟩
theorem q_asgLL {σ : L2.St} {H : Hp} {D : Ends} {tz : TS} {te : TE} {as : List (List V)} {i : Nat} (h : EvLL te σ H as) (k : ∀ l ys H1, H l = none → Ex H H1 → H1 l = some (.lst ys) → LLs H1 ys as → tz D (σ.set i (some (.ref l))) H1) : tSeq (tAsg te (gName i)) tz D σ H := h H (Ex.refl H) _ k
theorem q_asgCatLL {σ : L2.St} {H : Hp} {D : Ends} {tz : TS} {ta tb : TE} {p : Addr} {ys : List V} {as bs : List (List V)} {i : Nat} (ha : Ev ta σ H (.ref p)) (hp : H p = some (.lst ys)) (hL : LLs H ys as) (hb : ∀ H1, Ex H H1 → EvLL tb σ H1 bs) (hz : as.length + bs.length ≤ 100000) (k : ∀ l zs H1, H l = none → Ex H H1 → H1 l = some (.lst zs) → LLs H1 zs (as ++ bs) → tz D (σ.set i (some (.ref l))) H1) :
    tSeq (tAsg (tOp rCat ta tb) (gName i)) tz D σ H := s_asgCatLL (D := { D with nx := tz D }) ha hp hL hb hz k
def OkT (al : List Nat) (n : Nat) (b : List Nat) : Prop := (∀ z ∈ b, z ∈ al) ∧ b.length ≤ n
theorem OkT.app {al : List Nat} {n m : Nat} {a b : List Nat} (h : OkT al n a) (g : OkT al m b) : OkT al (n + m) (a ++ b) := ⟨fun z hz => (List.mem_append.mp hz).elim (h.1 z) (g.1 z), by rw [List.length_append]; have := h.2; have := g.2; omega⟩
theorem OkT.cut {al : List Nat} {n : Nat} {a : List Nat} (h : OkT al n a) {lo hi : Option Int} : OkT al n (cutL a lo hi) := ⟨fun z hz => h.1 z (cutL_sub z hz), Nat.le_trans cutL_len h.2⟩
theorem OkT.nil {al : List Nat} {n : Nat} : OkT al n [] := ⟨fun z hz => (by cases hz), Nat.zero_le _⟩
theorem OkT.le {al : List Nat} {n m : Nat} {a : List Nat} (h : OkT al n a) (e : n ≤ m) : OkT al m a := ⟨h.1, Nat.le_trans h.2 e⟩
/-- cases: pairs of texts -/
def CsAt (al : List Nat) (n : Nat) (H : Hp) (ys : List V) : Prop := ∀ y ∈ ys, ∃ r b c, y = .ref r ∧ H r = some (.lst [tx b, tx c]) ∧ OkT al n b ∧ OkT al n c
theorem CsAt.mono {al : List Nat} {n : Nat} {H H' : Hp} {ys : List V} (h : CsAt al n H ys) (e : Ex H H') : CsAt al n H' ys := fun y hy => by
  obtain ⟨r, b, c, h1, h2, h3⟩ := h y hy
  exact ⟨r, b, c, h1, e _ _ h2, h3⟩
theorem LLs.cs {al : List Nat} {n : Nat} {H : Hp} {ys : List V} {as : List (List V)} (h : LLs H ys as) (g : ∀ a ∈ as, ∃ b c, a = [tx b, tx c] ∧ OkT al n b ∧ OkT al n c) : CsAt al n H ys := fun y hy => by
  obtain ⟨i, hi, e⟩ := List.mem_iff_getElem.mp hy
  obtain ⟨a, r, h1, rfl, h3⟩ := h.get (i := i) (x := y) (by rw [List.getElem?_eq_getElem hi, e])
  obtain ⟨b, c, rfl, g1⟩ := g a (List.mem_of_getElem? h1)
  exact ⟨r, b, c, rfl, h3, g1⟩
section
variable {P : Program} {w : World} {K : PySem.W.Frag} {mg : Str → Option Value} {base : Heap} {C_Machine : Addr}
/-! ### _law_cases -/
def spCs : Sp := fun vs H Q _ => ∃ (al o c l : List Nat), vs = [tx o, tx c, tx l] ∧ OkT al 400 o ∧ OkT al 400 c ∧ OkT al 1 l ∧ ∀ p ys H2, H p = none → Ex H H2 → H2 p = some (.lst ys) → ys.length ≤ 13 → CsAt al 400 H2 ys → Q (.ref p) H2
theorem has_cs (F : At K mg "_law_cases" s__law_cases) (T : Top K mg C_Machine) : Has P w K mg base "_law_cases" s__law_cases ["opening", "circle", "letter"] 1 spCs := by
  obtain ⟨f, fd, F, m⟩ := F.ex
  refine ⟨f, fd, F, F.ok S__law_cases (fun vs H Q E h => ?_) (fun cdv A outer s H vs Q E hr h => ?_), F.binds fun _ _ _ _ _ _ us hl => match us, hl with | [_, _, _], _ => rfl, m, F.kp⟩
  · obtain ⟨al, o, c, l, rfl, _⟩ := h
    rfl
  obtain ⟨al, o, c, l, rfl, ho, hc, hl, q⟩ := h
  have zo := ho.2
  have zc := hc.2
  have zl := hl.2
  refine ⟨_, (pss_cons
    (ps_set (i := 3) S__law_cases.nd rfl (Or.inl rfl) (pe_lst (pa_cons (pe_lst (pa_cons (pv 0) (pa_cons (pv 1) pa_nil))) (pa_cons (pe_lst (pa_cons (pv 0) (pa_cons (pe_op op_mulS (pv 1) pe_int) pa_nil))) (pa_cons (pe_lst (pa_cons (pv 0) (pa_cons pe_str pa_nil))) (pa_cons (pe_lst (pa_cons (pv 0) (pa_cons (pe_slice sl_str (pv 1) po_none (po_some (pe_un un_neg pe_int))) pa_nil))) (pa_cons (pe_lst (pa_cons (pv 0) (pa_cons (pe_op op_add_str (pv 1) (pv 2)) pa_nil))) (pa_cons (pe_lst (pa_cons (pe_op op_add_str (pv 0) (pv 2)) (pa_cons (pv 1) pa_nil))) pa_nil))))))))
    (pss_cons
    (ps_set (i := 3) S__law_cases.nd rfl (Or.inl rfl) (pe_op op_cat (pv 3) (pe_lst (pa_cons (pe_lst (pa_cons pe_str (pa_cons (pv 1) pa_nil))) (pa_cons (pe_lst (pa_cons (pe_slice sl_str (pv 0) po_none (po_some (pe_un un_neg pe_int))) (pa_cons (pv 1) pa_nil))) (pa_cons (pe_lst (pa_cons (pv 0) (pa_cons (pe_op op_add_str (pe_slice sl_str (pv 1) (po_some pe_int) po_none) (pe_slice sl_str (pv 1) po_none (po_some pe_int))) pa_nil))) (pa_cons (pe_lst (pa_cons (pe_op op_add_str (pv 0) (pe_slice sl_str (pv 1) po_none (po_some pe_int))) (pa_cons (pe_op op_add_str (pe_slice sl_str (pv 1) (po_some pe_int) po_none) (pe_slice sl_str (pv 1) po_none (po_some pe_int))) pa_nil))) pa_nil)))))))
    (pss_cons
    (ps_set (i := 3) S__law_cases.nd rfl (Or.inl rfl) (pe_op op_cat (pv 3) (pe_lst (pa_cons (pe_lst (pa_cons (pv 1) (pa_cons (pv 0) pa_nil))) (pa_cons (pe_lst (pa_cons (pe_op op_add_str (pv 0) (pv 1)) (pa_cons (pv 1) pa_nil))) (pa_cons (pe_lst (pa_cons pe_str (pa_cons pe_str pa_nil))) pa_nil))))))
    (pss_one
    (ps_ret (pe_lc (own := [("case", 4)]) (g := gName 4) (tt := _) rfl S__law_cases.nd (pi_list (pv 3)) (blkOk_by (N := N__law_cases) (sc := defScope s__law_cases) (by decide +kernel)) (fun _ _ _ _ _ => pg_name (i := 4) S__law_cases.nd rfl (Or.inl rfl)) (fun _ _ _ _ _ => pts_one (PW.pt (pw_and (pt_cmpR op_le (pe_callB call_len_str rfl T.z_len PySem.boot_len (pa_cons (pe_ix (r := rIxL K) ix_list (pv 4) pe_int (fun _ _ => rfl)) pa_nil)) pe_int (nomark _)) (pw_and1 (pt_cmpR op_le (pe_callB call_len_str rfl T.z_len PySem.boot_len (pa_cons (pe_ix (r := rIxL K) ix_list (pv 4) pe_int (fun _ _ => rfl)) pa_nil)) pe_int (nomark _)))))) (fun _ _ _ _ _ => (pv 4)))))))), ?_⟩
  have vo : ∀ {σ : L2.St} {H' : Hp}, σ[0]? = some (some (tx o)) → Ev (tVar 0) σ H' (tx o) := fun h => ev_var h
  have cl : ∀ {σ : L2.St} {H' : Hp}, σ[1]? = some (some (tx c)) → Ev (tSl rSlS (tVar 1) tNoPart (tPart (tUn (rU fun i => .int (-i)) (tC (.int 1))))) σ H' (tx (cutL c none (some (-1)))) := fun h => ev_slS (by omega) (ev_var h) eo_none (eo_some (i := -1) (ev_un ev_c ru_neg))
  have ol : ∀ {σ : L2.St} {H' : Hp}, σ[0]? = some (some (tx o)) → Ev (tSl rSlS (tVar 0) tNoPart (tPart (tUn (rU fun i => .int (-i)) (tC (.int 1))))) σ H' (tx (cutL o none (some (-1)))) := fun h => ev_slS (by omega) (ev_var h) eo_none (eo_some (i := -1) (ev_un ev_c ru_neg))
  have c1 : ∀ {σ : L2.St} {H' : Hp}, σ[1]? = some (some (tx c)) → Ev (tSl rSlS (tVar 1) (tPart (tC (.int 1))) tNoPart) σ H' (tx (cutL c (some 1) none)) := fun h => ev_slS (by omega) (ev_var h) (eo_some (i := 1) ev_c) eo_none
  have c2 : ∀ {σ : L2.St} {H' : Hp}, σ[1]? = some (some (tx c)) → Ev (tSl rSlS (tVar 1) tNoPart (tPart (tC (.int 1)))) σ H' (tx (cutL c none (some 1))) := fun h => ev_slS (by omega) (ev_var h) eo_none (eo_some (i := 1) ev_c)
  have k1 := (hc.cut (lo := some 1) (hi := none)).2
  have k2 := (hc.cut (lo := none) (hi := some 1)).2
  have k3 := (hc.cut (lo := none) (hi := some (-1))).2
  have k4 := (ho.cut (lo := none) (hi := some (-1))).2
  have e0 : ∀ {σ : L2.St} {H' : Hp}, Ev (tC (.str (Str.ofString ""))) σ H' (tx []) := ev_is ev_c (by rw [mt_is])
  have two : ∀ {t1 t2 : TE} {σ : L2.St} {H' : Hp} {a b : List Nat}, Ev t1 σ H' (tx a) → Ev t2 σ H' (tx b) → EvL (tLst (tCons t1 (tCons t2 tNil))) σ H' [tx a, tx b] := fun h g => el_lst (ea_cons h (ea_cons g ea_nil)) (by show 2 ≤ 100000; decide)
  refine q_asgLL (ell_lst (ell_cons (two (ev_var rfl) (ev_var rfl)) (ell_cons (two (ev_var rfl) (ev_mulS (l := c) (n := 2) (by decide) (by omega) (ev_var rfl) ev_c)) (ell_cons (two (ev_var rfl) e0) (ell_cons (two (ev_var rfl) (cl rfl)) (ell_cons (two (ev_var rfl) (ev_catS (a := c) (b := l) (by omega) (ev_var rfl) (ev_var rfl))) (ell_cons (two (ev_catS (a := o) (b := l) (by omega) (ev_var rfl) (ev_var rfl)) (ev_var rfl)) ell_nil)))))) (by show 6 ≤ 1000; decide)) fun p1 y1 H1 hp1 e1 g1 LL1 => ?_
  refine q_asgCatLL (ev_var rfl) g1 LL1 (fun H2 e2 => ell_lst (ell_cons (two e0 (ev_var rfl)) (ell_cons (two (ol rfl) (ev_var rfl)) (ell_cons (two (ev_var rfl) (ev_catS (a := cutL c (some 1) none) (b := cutL c none (some 1)) (by omega) (c1 rfl) (c2 rfl))) (ell_cons (two (ev_catS (a := o) (b := cutL c none (some 1)) (by omega) (ev_var rfl) (c2 rfl)) (ev_catS (a := cutL c (some 1) none) (b := cutL c none (some 1)) (by omega) (c1 rfl) (c2 rfl))) ell_nil)))) (by show 4 ≤ 1000; decide)) (by show 6 + 4 ≤ 100000; decide) fun p2 y2 H2 hp2 e2 g2 LL2 => ?_
  refine q_asgCatLL (ev_var rfl) g2 LL2 (fun H3 e3 => ell_lst (ell_cons (two (ev_var rfl) (ev_var rfl)) (ell_cons (two (ev_catS (a := o) (b := c) (by omega) (ev_var rfl) (ev_var rfl)) (ev_var rfl)) (ell_cons (two e0 e0) ell_nil))) (by show 3 ≤ 1000; decide)) (by show 10 + 3 ≤ 100000; decide) fun p3 y3 H3 hp3 e3 g3 LL3 => ?_
  have rp : OkT al 800 (List.replicate 2 c).flatten := by
    have : (List.replicate 2 c).flatten = c ++ c := by simp [List.replicate]
    rw [this]
    exact hc.app hc
  have cs : CsAt al 1000 H3 y3 := LLs.cs LL3 fun a ha => by
    simp only [List.cons_append, List.nil_append, List.mem_cons, List.not_mem_nil, or_false] at ha
    rcases ha with rfl | rfl | rfl | rfl | rfl | rfl | rfl | rfl | rfl | rfl | rfl | rfl | rfl
    · exact ⟨_, _, rfl, ho.le (by omega), hc.le (by omega)⟩
    · exact ⟨_, _, rfl, ho.le (by omega), rp.le (by omega)⟩
    · exact ⟨_, _, rfl, ho.le (by omega), .nil⟩
    · exact ⟨_, _, rfl, ho.le (by omega), hc.cut.le (by omega)⟩
    · exact ⟨_, _, rfl, ho.le (by omega), (hc.app hl).le (by omega)⟩
    · exact ⟨_, _, rfl, (ho.app hl).le (by omega), hc.le (by omega)⟩
    · exact ⟨_, _, rfl, .nil, hc.le (by omega)⟩
    · exact ⟨_, _, rfl, ho.cut.le (by omega), hc.le (by omega)⟩
    · exact ⟨_, _, rfl, ho.le (by omega), (hc.cut.app hc.cut).le (by omega)⟩
    · exact ⟨_, _, rfl, (ho.app hc.cut).le (by omega), (hc.cut.app hc.cut).le (by omega)⟩
    · exact ⟨_, _, rfl, hc.le (by omega), ho.le (by omega)⟩
    · exact ⟨_, _, rfl, (ho.app hc).le (by omega), hc.le (by omega)⟩
    · exact ⟨_, _, rfl, .nil, .nil⟩
  have y3l : y3.length = 13 := LL3.len
  have e13 := (e1.trans e2).trans e3
  let tst : Nat → Bool := fun i => match y3[i]? with
    | some (.ref r) => match H3 r with
      | some (.lst [.str b, .str c]) => decide ((b.length : Int) ≤ 400) && decide ((c.length : Int) ≤ 400)
      | _ => false
    | _ => false
  have tstI : ∀ i r b c, y3[i]? = some (.ref r) → H3 r = some (.lst [tx b, tx c]) → tst i = (decide ((b.length : Int) ≤ 400) && decide ((c.length : Int) ≤ 400)) := fun i r b c h1 h2 => by
    show (match y3[i]? with | some (.ref r) => _ | _ => _) = _
    rw [h1]
    show (match H3 r with | some (.lst [.str b, .str c]) => _ | _ => _) = _
    rw [h2]
    show (decide (((SX.S b).length : Int) ≤ 400) && decide (((SX.S c).length : Int) ≤ 400)) = _
    rw [SX.S_len, SX.S_len]
  refine s_retL (el_lcL (K := K) tst (fun i => y3.getD i .non) (ev_var rfl) (sq_of g3) (by omega) (fun x => rfl) (fun i x H4 e4 hx => ?_) fun i x H4 e4 hx _ => ?_) fun p H4 hp e4 h4 => q p _ H4 (fresh_back e13 hp) (e13.trans e4) h4 ?_ ?_
  · obtain ⟨r, b, c', rfl, h2, h3⟩ := cs x (List.mem_of_getElem? hx)
    rw [tstI i r b c' hx h2]
    have z1 := h3.1.2
    have z2 := h3.2.2
    exact et_and (et_le (ev_lenS (l := b) (by omega) (ev_op (ev_var rfl) ev_c (rv_ixL (sq_of (e4 _ _ h2)) (atI_nat (j := 0) rfl)))) ev_c) fun _ => et_le (ev_lenS (l := c') (by omega) (ev_op (ev_var rfl) ev_c (rv_ixL (sq_of (e4 _ _ h2)) (atI_nat (j := 1) rfl)))) ev_c
  · have : y3.getD i .non = x := by rw [List.getD_eq_getElem?_getD, hx]; rfl
    rw [this]
    exact ev_var rfl
  · have := given_len y3.length tst fun i => y3.getD i .non
    omega
  · intro y hy
    unfold given at hy
    obtain ⟨i, hi, rfl⟩ := List.mem_map.mp hy
    obtain ⟨hi1, hi2⟩ := List.mem_filter.mp hi
    have hi3 := List.mem_range.mp hi1
    have hx : y3[i]? = some (y3.getD i .non) := by
      rw [List.getD_eq_getElem?_getD, List.getElem?_eq_getElem hi3]
      rfl
    obtain ⟨r, b, c', h1, h2, h3⟩ := cs _ (List.mem_of_getElem? hx)
    rw [h1] at hx
    rw [tstI i r b c' hx h2, Bool.and_eq_true] at hi2
    have d1 := of_decide_eq_true hi2.1
    have d2 := of_decide_eq_true hi2.2
    exact ⟨r, b, c', h1, e4 _ _ h2, ⟨h3.1.1, by omega⟩, h3.2.1, by omega⟩
end
end Ver
namespace Ver
open PySem PySem.Spec PyProof.Rows L2 Evl
def Made (al : List Nat) (H : Hp) (v : V) : Prop := v = .non ∨ ∃ p b c, v = .ref p ∧ H p = some (.lst [tx b, tx c]) ∧ OkT al 400 b ∧ OkT al 400 c
theorem Made.mono {al : List Nat} {H H' : Hp} {v : V} (h : Made al H v) (e : Ex H H') : Made al H' v := by
  rcases h with h | ⟨p, b, c, h1, h2, h3⟩
  · exact .inl h
  · exact .inr ⟨p, b, c, h1, e _ _ h2, h3⟩
theorem s_lp {σ : L2.St} {H : Hp} {D : Ends} {E : XK} {ta : TA} {al o u : List Nat} {R1 R2 : Tbl} {x y : V} {wh i : Nat} (h : EvA ta σ H [tx al, x, y, tx o, tx u, .int (wh : Int)]) (rc : Rc al R1 R2) (hx : TabP R1 H x) (hy : TabP R2 H y) (ho : OkT al 400 o) (hu : OkT al 4 u) (hw : wh ≤ 2) (k : ∀ v H2, Ex H H2 → Made al H2 v → D.nx (σ.set i (some v)) H2) : tAsg (tCall spLp [] E ta) (gName i) D σ H :=
  h H (Ex.refl H) _ fun H1 e1 => ⟨al, o, u, R1, R2, x, y, wh, rfl, rc, tab_sol.mono e1 hx, tab_sol.mono e1 hy, ho.1, hu.1, ho.2, hu.2, hw, fun _ H2 e2 => k _ H2 (e1.trans e2) (.inl rfl), fun j n _ z1 z2 p H2 hp e2 h2 => k _ H2 (e1.trans e2) (.inr ⟨p, _, _, rfl, h2, ⟨fun z hz => (List.mem_append.mp hz).elim (ho.1 z) (rep_in hu.1 j z), z1⟩, rep_in hu.1 n, z2⟩)⟩
theorem q_lp {σ : L2.St} {H : Hp} {D : Ends} {tz : TS} {E : XK} {ta : TA} {al o u : List Nat} {R1 R2 : Tbl} {x y : V} {wh i : Nat} (h : EvA ta σ H [tx al, x, y, tx o, tx u, .int (wh : Int)]) (rc : Rc al R1 R2) (hx : TabP R1 H x) (hy : TabP R2 H y) (ho : OkT al 400 o) (hu : OkT al 4 u) (hw : wh ≤ 2) (k : ∀ v H2, Ex H H2 → Made al H2 v → tz D (σ.set i (some v)) H2) : tSeq (tAsg (tCall spLp [] E ta) (gName i)) tz D σ H := s_lp (D := { D with nx := tz D }) h rc hx hy ho hu hw k
theorem et_isNo {σ : L2.St} {H : Hp} {ta : TE} {x : V} {b : Bool} (h : Ev ta σ H x) (e : decide (x = .non) = b) : EvT (tTest (tOp (fun x y H Q => y = .non ∧ Q (.bl (decide (x = .non))) H) ta (tC .non))) σ H b := et_is (et_test (ev_op h ev_c fun H1 _ Q q => ⟨rfl, q H1 (Ex.refl H1)⟩)) e
theorem et_notNo {σ : L2.St} {H : Hp} {ta : TE} {x : V} {b : Bool} (h : Ev ta σ H x) (e : (!decide (x = .non)) = b) : EvT (tTest (tOp (fun x y H Q => y = .non ∧ Q (.bl (!decide (x = .non))) H) ta (tC .non))) σ H b := et_is (et_test (ev_op h ev_c fun H1 _ Q q => ⟨rfl, q H1 (Ex.refl H1)⟩)) e
theorem CsAt.app {al : List Nat} {n : Nat} {H : Hp} {ys zs : List V} (h : CsAt al n H ys) (g : CsAt al n H zs) : CsAt al n H (ys ++ zs) := fun y hy => (List.mem_append.mp hy).elim (h y) (g y)
/-- xs = xs + f(..), the call gives a new list -/
theorem s_catC {σ : L2.St} {H : Hp} {D : Ends} {sp : Sp} {E : XK} {ta : TE} {tp : TA} {p : Addr} {ys vs : List V} {n i : Nat} {G : Hp → List V → Prop} (ha : Ev ta σ H (.ref p)) (hp : H p = some (.lst ys)) (h : EvA tp σ H vs) (hz : ys.length + n ≤ 100000) (hs : ∀ H1, Ex H H1 → ∀ Q : VK, (∀ r zs H2, H1 r = none → Ex H1 H2 → H2 r = some (.lst zs) → zs.length ≤ n → G H2 zs → Q (.ref r) H2) → sp (vs ++ []) H1 Q E)
    (k : ∀ l zs H2, H l = none → Ex H H2 → H2 l = some (.lst (ys ++ zs)) → zs.length ≤ n → (∃ H0, Ex H0 H2 ∧ G H0 zs) → D.nx (σ.set i (some (.ref l))) H2) : tAsg (tOp rCat ta (tCall sp [] E tp)) (gName i) D σ H :=
  ha H (Ex.refl H) _ fun H1 e1 => h H1 e1 _ fun H2 e2 => hs H2 (e1.trans e2) _ fun r zs H3 hr e3 h3 hn g => by
    have e13 := (e1.trans e2).trans e3
    exact ⟨p, r, ys, zs, rfl, rfl, e13 _ _ hp, h3, sz_of (by omega), fun l hl => k l zs _ (fresh_back e13 hl) (e13.trans (Ex.new hl)) upd_same hn ⟨H3, Ex.new hl, g⟩⟩
section
variable {P : Program} {w : World} {K : PySem.W.Frag} {mg : Str → Option Value} {base : Heap} {C_Machine : Addr}
/-! ### _law_all_cases -/
def spAc : Sp := fun vs H Q _ => ∃ (al o u l : List Nat) (R1 R2 : Tbl) (x y : V), vs = [tx al, x, y, tx o, tx u, tx l] ∧ Rc al R1 R2 ∧ TabP R1 H x ∧ TabP R2 H y ∧ OkT al 400 o ∧ OkT al 4 u ∧ OkT al 1 l ∧ ∀ p ys H2, H p = none → Ex H H2 → H2 p = some (.lst ys) → ys.length ≤ 100 → CsAt al 400 H2 ys → Q (.ref p) H2
theorem has_ac (F : At K mg "_law_all_cases" s__law_all_cases) (T : Top K mg C_Machine) (h1 : Has P w K mg base "_law_loop" s__law_loop ["alphabet", "this", "that", "opening", "word", "which"] 2 spLp) (h2 : Has P w K mg base "_law_cases" s__law_cases ["opening", "circle", "letter"] 1 spCs) : Has P w K mg base "_law_all_cases" s__law_all_cases ["alphabet", "this", "that", "opening", "word", "letter"] 3 spAc := by
  obtain ⟨f, fd, F, m⟩ := F.ex
  obtain ⟨f1, fd1, _, G__law_loop, b__law_loop, m__law_loop, k__law_loop⟩ := h1
  obtain ⟨f2, fd2, _, G__law_cases, b__law_cases, m__law_cases, k__law_cases⟩ := h2
  refine ⟨f, fd, F, F.ok S__law_all_cases (fun vs H Q E h => ?_) (fun cdv A outer s H vs Q E hr h => ?_), F.binds fun _ _ _ _ _ _ us hl => match us, hl with | [_, _, _, _, _, _], _ => rfl, m, F.kp⟩
  · obtain ⟨al, o, u, l, R1, R2, x, y, rfl, _⟩ := h
    rfl
  obtain ⟨al, o, u, l, R1, R2, x, y, rfl, rc, hx, hy, ho, hu, hl, q⟩ := h
  refine ⟨_, (pss_cons
    (ps_set (i := 6) S__law_all_cases.nd rfl (Or.inl rfl) (pe_lst pa_nil))
    (pss_cons
    (ps_for PassesOwn.never rfl (pi_range1 rfl T.z_range (pa_cons pe_int pa_nil)) (pg_name (i := 7) S__law_all_cases.nd rfl (Or.inl rfl)) (pss_cons
    (ps_set (i := 8) S__law_all_cases.nd rfl (Or.inl rfl) (pe_call G__law_loop (hr.mono (by decide)) rfl m__law_loop k__law_loop b__law_loop .nil pass0 (pa_cons (pv 0) (pa_cons (pv 1) (pa_cons (pv 2) (pa_cons (pv 3) (pa_cons (pv 4) (pa_cons (pv 7) pa_nil))))))))
    (pss_cut
    (ps_if (pt_cmpR op_isN (pv 8) pe_non (nomark _)) (pss_one
    (ps_set (i := 8) S__law_all_cases.nd rfl (Or.inl rfl) (pe_call G__law_loop (hr.mono (by decide)) rfl m__law_loop k__law_loop b__law_loop .nil pass0 (pa_cons (pv 0) (pa_cons (pv 1) (pa_cons (pv 2) (pa_cons (pe_slice sl_str (pv 3) po_none (po_some pe_int)) (pa_cons (pe_slice sl_str (pv 4) po_none (po_some pe_int)) (pa_cons (pv 7) pa_nil))))))))) pss_nil)
    (pss_one
    (ps_if (pt_cmpR op_notN (pv 8) pe_non (nomark _)) (pss_one
    (ps_set (i := 6) S__law_all_cases.nd rfl (Or.inl rfl) (pe_op op_cat (pv 6) (pe_call G__law_cases (hr.mono (by decide)) rfl m__law_cases k__law_cases b__law_cases .nil pass0 (pa_cons (pe_ix (r := rIxL K) ix_list (pv 8) pe_int (fun _ _ => rfl)) (pa_cons (pe_ix (r := rIxL K) ix_list (pv 8) pe_int (fun _ _ => rfl)) (pa_cons (pv 5) pa_nil))))))) pss_nil)))))
    (pss_one
    (ps_ret (pv 6))))), ?_⟩
  refine q_asgL (xs := []) (el_lst ea_nil (by decide)) fun p0 H1 hp0 e1 g1 => ?_
  refine q_forR1 (n := 3) (ea_cons ev_c ea_nil) (by decide) (fun i σ' H' => ∃ (p : Addr) (ys : List V) (u7 u8 : Option V), σ' = [some (tx al), some x, some y, some (tx o), some (tx u), some (tx l), some (.ref p), u7, u8] ∧ Ex H H' ∧ H p = none ∧ H' p = some (.lst ys) ∧ ys.length ≤ 13 * i ∧ CsAt al 400 H' ys) ?_ ?_ ?_
  · intro H2 e2
    exact ⟨p0, [], none, none, rfl, e1.trans e2, hp0, e2 _ _ g1, Nat.le_refl _, fun y hy => by cases hy⟩
  · rintro i σ' H' hi ⟨p, ys, u7, u8, rfl, e2, hp, gp, hyl, hcs⟩
    have hi2 : i ≤ 2 := by omega
    refine q_lp (wh := i) (ea_cons (ev_var rfl) (ea_cons (ev_var rfl) (ea_cons (ev_var rfl) (ea_cons (ev_var rfl) (ea_cons (ev_var rfl) (ea_cons (ev_var rfl) ea_nil)))))) rc (tab_sol.mono e2 hx) (tab_sol.mono e2 hy) ho hu hi2 fun v H3 e3 hv => ?_
    refine q_cut (M := fun σ' H4 => ∃ v2, σ' = [some (tx al), some x, some y, some (tx o), some (tx u), some (tx l), some (.ref p), some (.int (i : Int)), some v2] ∧ Ex H3 H4 ∧ Made al H4 v2) ?_ ?_
    · refine s_when (et_isNo (ev_var rfl) rfl) (fun hb H4 e4 => ?_) (fun hb H4 e4 => ⟨v, rfl, e4, hv.mono e4⟩)
      exact s_lp (wh := i) (ea_cons (ev_var rfl) (ea_cons (ev_var rfl) (ea_cons (ev_var rfl) (ea_cons (ev_slS (by have := ho.2; omega) (ev_var rfl) eo_none (eo_some (i := 39) ev_c)) (ea_cons (ev_slS (by have := hu.2; omega) (ev_var rfl) eo_none (eo_some (i := 1) ev_c)) (ea_cons (ev_var rfl) ea_nil)))))) rc (tab_sol.mono ((e2.trans e3).trans e4) hx) (tab_sol.mono ((e2.trans e3).trans e4) hy) ho.cut hu.cut hi2 fun v2 H5 e5 hv2 => ⟨v2, rfl, e4.trans e5, hv2⟩
    · rintro σ2 H4 ⟨v2, rfl, e4, hv2⟩
      have e24 := (e2.trans e3).trans e4
      have gp4 := e4 _ _ (e3 _ _ gp)
      rcases hv2 with rfl | ⟨q0, b, c, rfl, hq, hb, hc⟩
      · exact s_when (b := false) (et_notNo (ev_var rfl) rfl) (fun z => nomatch z) fun _ H5 e5 => ⟨p, ys, _, _, rfl, e24.trans e5, hp, e5 _ _ gp4, by omega, hcs.mono ((e3.trans e4).trans e5)⟩
      · refine s_when (b := true) (et_notNo (ev_var rfl) rfl) (fun _ H5 e5 => ?_) (fun z => nomatch z)
        have hq5 := e5 _ _ hq
        refine s_catC (ev_var rfl) (e5 _ _ gp4) (ea_cons (ev_op (ev_var rfl) ev_c (rv_ixL (sq_of hq5) (atI_nat (j := 0) rfl))) (ea_cons (ev_op (ev_var rfl) ev_c (rv_ixL (sq_of hq5) (atI_nat (j := 1) rfl))) (ea_cons (ev_var rfl) ea_nil))) (n := 13) (by omega) (G := CsAt al 400) (fun H6 e6 Q' q' => ⟨al, b, c, l, rfl, hb, hc, hl, fun r zs H7 hr7 e7 g7 hz7 cz => q' r zs H7 hr7 e7 g7 hz7 cz⟩) fun l2 zs H6 hl2 e6 g6 hz6 ⟨H0, e0, cz⟩ => ?_
        exact ⟨l2, ys ++ zs, _, _, rfl, (e24.trans e5).trans e6, fresh_back (e24.trans e5) hl2, g6, by rw [List.length_append]; omega, (hcs.mono (((e3.trans e4).trans e5).trans e6)).app (cz.mono e0)⟩
  · rintro σ' H' ⟨p, ys, u7, u8, rfl, e2, hp, gp, hyl, hcs⟩
    exact s_ret (ev_var rfl) fun H3 e3 => q p ys H3 hp (e2.trans e3) (e3 _ _ gp) (by have : (3 : Int).toNat = 3 := rfl; omega) (hcs.mono e3)
end
end Ver
namespace Ver
open PySem PySem.Spec PyProof.Rows L2 Evl
section
variable {P : Program} {w : World} {K : PySem.W.Frag} {mg : Str → Option Value} {base : Heap} {C_Machine : Addr}
theorem has_lwhole (F : At K mg "_law_whole" s__law_whole) (T : Top K mg C_Machine) : Has P w K mg base "_law_whole" s__law_whole ["value"] 1 spWhole := by
  obtain ⟨f, fd, F, m⟩ := F.ex
  refine ⟨f, fd, F, F.ok S__law_whole (fun vs H Q E h => ?_) (fun cdv A outer s H vs Q E hr h => ?_), F.binds fun _ _ _ _ _ _ us hl => match us, hl with | [_], _ => rfl, m, F.kp⟩
  · obtain ⟨n, rfl, _⟩ := h
    rfl
  obtain ⟨n, rfl, q⟩ := h
  refine ⟨_, (pss_one
    (ps_ret (pe_and (pe_callB call_isi rfl T.z_isinstance (by decide +kernel) (pa_cons (pv 0) (pa_cons (pe_bltn (v := .ty "int") rfl T.z_int (by decide +kernel) rfl) pa_nil))) (pe_one (pe_not (pe_callB call_isi rfl T.z_isinstance (by decide +kernel) (pa_cons (pv 0) (pa_cons (pe_bltn (v := .ty "bool") rfl T.z_bool (by decide +kernel) rfl) pa_nil)))))))), ?_⟩
  exact s_ret (ev_is (ev_andV (ev_cb (ea_cons (ev_var rfl) (ea_cons ev_c ea_nil)) (rc_isi (b := true) (by decide +kernel)))
    (fun _ => ev_notV (ev_cb (ea_cons (ev_var rfl) (ea_cons ev_c ea_nil)) (rc_isi (b := false) (by decide +kernel))))) rfl) q
end
end Ver
namespace Ver
open PySem PySem.Spec PyProof.Rows L2 Evl
def spl19 : List Nat := [65, 66, 90, 33, 126, 95, 45, 46, 48, 49, 56, 57, 97, 98, 107, 122, 32, 10]
theorem spl19_is : Str.ofString "ABZ!~_-.0189abkz \n" = SX.S spl19 := by decide +kernel
theorem bigA_out {al : List Nat} (hA : Alf al) : 65 ∉ al := fun h => by
  have := hA.let' 65 h
  omega
theorem out_pos {al l : List Nat} {c : Nat} (hc : c ∈ l) (h : c ∉ al) : 0 < (l.filter fun c => !decide (c ∈ al)).length := List.length_pos_of_mem (List.mem_filter.mpr ⟨hc, by rw [decide_eq_false h]; rfl⟩)
theorem figs_out {al : List Nat} (hA : Alf al) : ∃ c, c ∈ figs ∧ c ∉ al := Classical.byContradiction fun hn => by
  have h := nodup_sub figs al figs_nd fun x hx => Classical.byContradiction fun z => hn ⟨x, hx, z⟩
  have h6 := hA.six
  have e : figs.length = 36 := rfl
  omega
theorem filt_at {al l : List Nat} {k : Nat} (hk : k < (l.filter fun c => !decide (c ∈ al)).length) : ∃ c, c ∈ l ∧ c ∉ al ∧ ((l.filter fun c => !decide (c ∈ al)).map fun c => tx [c])[k]? = some (tx [c]) := by
  refine ⟨(l.filter fun c => !decide (c ∈ al))[k], ?_, ?_, by rw [List.getElem?_map, List.getElem?_eq_getElem hk]; rfl⟩
  · exact (List.mem_filter.mp (List.getElem_mem hk)).1
  · have := (List.mem_filter.mp (List.getElem_mem hk)).2
    rw [Bool.not_eq_true'] at this
    exact of_decide_eq_false this
/-- a list of the signs of a text that are not in the alphabet -/
theorem el_out {σ : L2.St} {H : Hp} {tl : TE} {j i : Nat} {vs : List Nat} {al x : List Nat} (h : Ev tl σ H (tx x)) (hz : x.length ≤ 1000) (hw : ∀ a, wipe ((wipe σ vs).set j (some a)) vs = wipe σ vs)
    (h1 : ∀ a : V, ((wipe σ vs).set j (some a))[i]? = some (some (tx al))) (h2 : ∀ a : V, ((wipe σ vs).set j (some a))[j]? = some (some a)) :
    EvL (tLc (iStr tl) (gName j) (tTest (tOp (fun x y H Q => ∃ (c : Nat) (z : Str), x = .str ⟨#[c]⟩ ∧ y = .str z ∧ Q (.bl (!decide (c ∈ z.cps.toList))) H) (tVar j) (tVar i))) (tVar j) vs) σ H ((x.filter fun c => !decide (c ∈ al)).map fun c => tx [c]) :=
  el_lcSF (fun c => !decide (c ∈ al)) (fun c => tx [c]) h (by omega) hw (fun i c H1 e hc => et_test (ev_op (ev_var (h2 _)) (ev_var (h1 _)) rv_niSign)) fun i c H1 e hc => ev_var (h2 _)
theorem bad1_in {al a b : List Nat} {c : Nat} {rest : List Nat} (ha : ∀ x ∈ a, x ∈ al) (hc : c ∉ al) : bad1 al (a ++ [c] ++ b ++ rest) a.length := by
  rw [show a ++ [c] ++ b ++ rest = a ++ c :: (b ++ rest) by simp]
  exact bad1_mk ha hc
section
variable {P : Program} {w : World} {K : PySem.W.Frag} {mg : Str → Option Value} {base : Heap} {C_Machine : Addr}
/-! ### _law_spoilt -/
def spSpt (K : PySem.W.Frag) : Sp := fun vs H Q _ => ∃ (al v : List Nat) (a : Addr) (r : List Int), vs = [tx al, tx v, .ref a] ∧ Alf al ∧ (∀ c ∈ v, c ∈ al) ∧ v.length ≤ 398 ∧ SqL K H a (r.map V.int) ∧ 3 ≤ r.length ∧ ∀ (u : List Nat) (k : Nat), bad1 al u k → u.length ≤ 400 → RetL [tx u, .int (k : Int)] H Q
theorem has_spt (F : At K mg "_law_spoilt" s__law_spoilt) (T : Top K mg C_Machine) : Has P w K mg base "_law_spoilt" s__law_spoilt ["alphabet", "text", "row"] 1 (spSpt K) := by
  obtain ⟨f, fd, F, m⟩ := F.ex
  refine ⟨f, fd, F, F.ok S__law_spoilt (fun vs H Q E h => ?_) (fun cdv A outer s H vs Q E hr h => ?_), F.binds fun _ _ _ _ _ _ us hl => match us, hl with | [_, _, _], _ => rfl, m, F.kp⟩
  · obtain ⟨al, v, a, r, rfl, _⟩ := h
    rfl
  obtain ⟨al, v, a, r, rfl, hA, hv, hz, hR, hr3, q⟩ := h
  refine ⟨_, (pss_cons
    (ps_setLc (i := 3) (own := [("sign", 6)]) (g := gName 6) (tt := _) rfl S__law_spoilt.nd rfl (rfl) (sw_true rfl rfl rfl (by decide +kernel)) (pi_str pe_str) (blkOk_by (N := N__law_spoilt) (sc := defScope s__law_spoilt) (by decide +kernel)) (fun _ _ _ _ _ => pg_name (i := 6) S__law_spoilt.nd rfl (Or.inl rfl)) (fun _ _ _ _ _ => pts_one (pt_cmpR op_notIn_sign (pv 6) (pv 0) rfl)) (fun _ _ _ _ _ => (pv 6)))
    (pss_cons
    (ps_set (i := 4) S__law_spoilt.nd rfl (Or.inl rfl) (pe_op op_mod (pe_callTy call_int1 rfl T.z_int (by decide +kernel) (pa_cons (pe_ix (r := rIxL K) ix_list (pv 2) pe_int (fun _ _ => rfl)) pa_nil)) (pe_op op_add (pe_callB call_len_str rfl T.z_len PySem.boot_len (pa_cons (pv 1) pa_nil)) pe_int)))
    (pss_cons
    (ps_set (i := 5) S__law_spoilt.nd rfl (Or.inl rfl) (pe_op op_add_str (pe_op op_add_str (pe_slice sl_str (pv 1) po_none (po_some (pv 4))) (pe_ix (r := rIxL K) ix_list (pv 3) (pe_op op_mod (pe_callTy call_int1 rfl T.z_int (by decide +kernel) (pa_cons (pe_ix (r := rIxL K) ix_list (pv 2) pe_int (fun _ _ => rfl)) pa_nil)) (pe_callB call_len_seq rfl T.z_len PySem.boot_len (pa_cons (pv 3) pa_nil))) (fun _ _ => rfl))) (pe_slice sl_str (pv 1) (po_some (pv 4)) po_none)))
    (pss_cut
    (ps_if (pt_cmpR op_eq (pe_op op_mod (pe_callTy call_int1 rfl T.z_int (by decide +kernel) (pa_cons (pe_ix (r := rIxL K) ix_list (pv 2) pe_int (fun _ _ => rfl)) pa_nil)) pe_int) pe_int (nomark _)) (pss_one
    (ps_set (i := 5) S__law_spoilt.nd rfl (Or.inl rfl) (pe_op op_add_str (pv 5) (pe_ix (r := rIxL K) ix_list (pv 3) (pe_op op_mod (pe_callTy call_int1 rfl T.z_int (by decide +kernel) (pa_cons (pe_ix (r := rIxL K) ix_list (pv 2) pe_int (fun _ _ => rfl)) pa_nil)) (pe_callB call_len_seq rfl T.z_len PySem.boot_len (pa_cons (pv 3) pa_nil))) (fun _ _ => rfl))))) pss_nil)
    (pss_one
    (ps_ret (pe_lst (pa_cons (pv 5) (pa_cons (pv 4) pa_nil))))))))), ?_⟩
  refine q_asgL (el_out (x := spl19) (al := al) (i := 0) (ev_is ev_c (by rw [spl19_is])) (by decide) (fun a => rfl) (fun a => rfl) (fun a => rfl)) fun ls H1 hls e1 g1 => ?_
  have hpos := out_pos (al := al) (show 65 ∈ spl19 by decide +kernel) (bigA_out hA)
  obtain ⟨k1, hk1, ek1⟩ := int_mod (x := at0 r 1) hpos
  obtain ⟨k2, hk2, ek2⟩ := int_mod (x := at0 r 2) hpos
  obtain ⟨c1, hc1, hn1, hat1⟩ := filt_at hk1
  obtain ⟨c2, hc2, hn2, hat2⟩ := filt_at hk2
  have one : ∀ {i : Nat} {k : Nat} {c : Nat} {σ : L2.St} {H' : Hp}, i < 3 → at0 r i % ((spl19.filter fun c => !decide (c ∈ al)).length : Int) = (k : Int) → ((spl19.filter fun c => !decide (c ∈ al)).map fun c => tx [c])[k]? = some (tx [c]) → σ[2]? = some (some (.ref a)) → σ[3]? = some (some (.ref ls)) → Ex H1 H' →
      Ev (tOp (rIxL K) (tVar 3) (tOp (rI (fun _ j => 0 < j) fun i j => .int (i % j)) (tCB (fun xs H Q => (∃ i, xs = [V.int i] ∧ Q (V.int i) H) ∨ ∃ k, xs = [V.bl k] ∧ Q (V.int (if k = true then 1 else 0)) H) (tCons (tOp (rIxL K) (tVar 2) (tC (.int (i : Int)))) tNil)) (tCB (fun vs H Q => ∃ p ys, vs = [V.ref p] ∧ (SqL K H p ys ∨ SqT K H p ys) ∧ Q (V.int ys.length) H) (tCons (tVar 3) tNil)))) σ H' (tx [c]) :=
    @fun i k c σ H' hi ek hat s3 s4 hex => ev_op (ev_var s4) (ev_is (ev_mod (i := at0 r i) (j := ((spl19.filter fun c => !decide (c ∈ al)).length : Int)) (by omega) (ev_int (ev_atI (ex_l (e1.trans hex) hR) (by omega) rfl (ev_var s3) ev_c)) (ev_is (ev_cb (ea_cons (ev_var s4) ea_nil) (rc_lenL (sq_of (hex _ _ g1)))) (by rw [List.length_map]))) (by rw [ek])) (rv_ixL (sq_of (hex _ _ g1)) (atI_nat hat))
  obtain ⟨n, hn, en⟩ := int_mod (x := at0 r 0) (n := v.length + 1) (by omega)
  have en : at0 r 0 % ((v.length : Int) + 1) = (n : Int) := en
  refine q_asg (v := .int (n : Int)) (ev_is (ev_mod (j := (v.length : Int) + 1) (by omega) (ev_int (ev_atI (ex_l e1 hR) (i := 0) (by omega) rfl (ev_var rfl) ev_c)) (ev_add (ev_lenS (by omega) (ev_var rfl)) ev_c)) (by rw [en])) fun H2 e2 => ?_
  refine q_asg (v := tx (v.take n ++ [c1] ++ v.drop n)) (ev_is (ev_catS (a := v.take n ++ [c1]) (b := cutL v (some (n : Int)) none) (by
      rw [cutL_from, List.length_append, List.length_take, List.length_drop]
      show min n v.length + 1 + _ ≤ _
      omega) (ev_is (ev_catS (a := cutL v none (some (n : Int))) (b := [c1]) (by rw [cutL_to, List.length_take]; show _ + 1 ≤ _; omega) (ev_slS (by omega) (ev_var rfl) eo_none (eo_some (i := (n : Int)) (ev_var rfl))) (one (i := 1) (by decide) ek1 hat1 rfl rfl e2)) (by rw [cutL_to])) (ev_slS (by omega) (ev_var rfl) (eo_some (i := (n : Int)) (ev_var rfl)) eo_none)) (by rw [cutL_from])) fun H3 e3 => ?_
  have e13 := (e1.trans e2).trans e3
  have tk : (v.take n).length = n := by rw [List.length_take]; omega
  have hul : (v.take n ++ [c1] ++ v.drop n).length = v.length + 1 := by
    rw [List.length_append, List.length_append, List.length_take, List.length_drop]
    show min n v.length + 1 + (v.length - n) = _
    omega
  refine q_cut (M := fun σ' H' => Ex H3 H' ∧ ∃ u : List Nat, σ' = [some (tx al), some (tx v), some (.ref a), some (.ref ls), some (.int (n : Int)), some (tx u), none] ∧ bad1 al u n ∧ u.length ≤ 400) ?_ ?_
  · refine s_when (et_eqI (ev_mod (by decide) (ev_int (ev_atI (ex_l e13 hR) (i := 1) (by omega) rfl (ev_var rfl) ev_c)) ev_c) ev_c) (fun hb H4 e4 => ?_) (fun hb H4 e4 => ?_)
    · refine s_asg (ev_catS (b := [c2]) (by rw [hul]; show _ + 1 ≤ _; omega) (ev_var rfl) (one (i := 2) (by decide) ek2 hat2 rfl rfl ((e2.trans e3).trans e4))) fun H5 e5 => ⟨e4.trans e5, _, rfl, ?_, by rw [List.length_append, hul]; show _ + 1 ≤ _; omega⟩
      have := bad1_in (al := al) (a := v.take n) (b := v.drop n) (c := c1) (rest := [c2]) (fun x hx => hv x (List.mem_of_mem_take hx)) hn1
      rw [tk] at this
      exact this
    · refine ⟨e4, _, rfl, ?_, by omega⟩
      have := bad1_in (al := al) (a := v.take n) (b := v.drop n) (c := c1) (rest := []) (fun x hx => hv x (List.mem_of_mem_take hx)) hn1
      rw [tk, List.append_nil] at this
      exact this
  · rintro σ' H4 ⟨e4, u, rfl, hb, hu⟩
    exact (el_lst (ea_cons (ev_var rfl) (ea_cons (ev_var rfl) ea_nil)) (by show 2 ≤ 100000; decide)) H4 (Ex.refl H4) _ fun p H5 hp e5 g5 => q u n hb hu p H5 (fresh_back (e13.trans e4) hp) ((e13.trans e4).trans e5) g5
/-! ### _law_other_alphabet -/
theorem s_retSJ {K : PySem.W.Frag} {σ : L2.St} {H : Hp} {D : Ends} {tl : TE} {cs : List Nat} (h : EvL tl σ H (cs.map fun c => tx [c])) (nd : cs.Nodup) (hl : cs.length < 64) (k : ∀ ds : List Nat, ds.Perm cs → ds.Pairwise (· < ·) → RetV (tx ds) H D.rt) : tRet (tM1 (rJoin K) (tC (.str (Str.ofString ""))) (tCB (rSortedS K) (tCons tl tNil))) D σ H := by
  refine s_retJoinX (h H (Ex.refl H) _ fun l H1 hl1 e1 g1 => ?_)
  have hms : (cs.map fun c => tx [c]) = (cs.map fun c => SX.S [c]).map V.str := by
    rw [List.map_map]
    rfl
  refine ⟨l, cs.map (fun c => SX.S [c]), rfl, sq_of (by rw [← hms]; exact g1), by rw [List.length_map]; omega, fun ys p hp hs hpn => ?_⟩
  rw [mt_is]
  obtain ⟨ds, rfl, hdp, hda⟩ := sorted_signs nd hp hs
  have hdl := hdp.length_eq
  have ej : (ds.map fun c => SX.S [c]) = (ds.map fun c => [c]).map SX.S := by
    rw [List.map_map]
    rfl
  refine join_ok (ps := ds.map fun c => [c]) (K := K) (.inl (sq_of (by rw [map_tx, ← ej]; exact upd_same))) (by rw [flat_sing]; omega) ?_
  rw [flat_sing]
  exact k ds hdp hda _ (e1.trans (Ex.new hpn))
def spOa : Sp := fun vs H Q _ => ∃ (al : List Nat) (z : Int), vs = [tx al, .int z] ∧ Alf al ∧ 0 ≤ z ∧ ∀ al2, Alf al2 → al2 ≠ al → RetV (tx al2) H Q
theorem has_oa (F : At K mg "_law_other_alphabet" s__law_other_alphabet) (T : Top K mg C_Machine) : Has P w K mg base "_law_other_alphabet" s__law_other_alphabet ["alphabet", "kind"] 1 spOa := by
  obtain ⟨f, fd, F, m⟩ := F.ex
  refine ⟨f, fd, F, F.ok S__law_other_alphabet (fun vs H Q E h => ?_) (fun cdv A outer s H vs Q E hr h => ?_), F.binds fun _ _ _ _ _ _ us hl => match us, hl with | [_, _], _ => rfl, m, F.kp⟩
  · obtain ⟨al, z, rfl, _⟩ := h
    rfl
  obtain ⟨al, z, rfl, hA, hz, q⟩ := h
  refine ⟨_, (pss_cons
    (ps_set (i := 2) S__law_other_alphabet.nd rfl (Or.inl rfl) pe_str)
    (pss_cons
    (ps_setLc (i := 3) (own := [("letter", 5)]) (g := gName 5) (tt := _) rfl S__law_other_alphabet.nd rfl (rfl) (sw_true rfl rfl rfl (by decide +kernel)) (pi_str (pv 2)) (blkOk_by (N := N__law_other_alphabet) (sc := defScope s__law_other_alphabet) (by decide +kernel)) (fun _ _ _ _ _ => pg_name (i := 5) S__law_other_alphabet.nd rfl (Or.inl rfl)) (fun _ _ _ _ _ => pts_one (pt_cmpR op_notIn_sign (pv 5) (pv 0) rfl)) (fun _ _ _ _ _ => (pv 5)))
    (pss_cons
    (ps_set (i := 4) S__law_other_alphabet.nd rfl (Or.inl rfl) (pe_ix (r := rIxL K) ix_list (pv 3) (pe_op op_mod (pe_callTy call_int1 rfl T.z_int (by decide +kernel) (pa_cons (pe_op op_fdivW (pv 1) pe_int) pa_nil)) (pe_callB call_len_seq rfl T.z_len PySem.boot_len (pa_cons (pv 3) pa_nil))) (fun _ _ => rfl)))
    (pss_cons
    (ps_if (PW.pt (pw_and (pt_cmpR op_eq (pe_op op_mod (pe_callTy call_int1 rfl T.z_int (by decide +kernel) (pa_cons (pv 1) pa_nil)) pe_int) pe_int (nomark _)) (pw_and1 (pt_cmpR op_gt (pe_callB call_len_str rfl T.z_len PySem.boot_len (pa_cons (pv 0) pa_nil)) pe_int (nomark _))))) (pss_one
    (ps_ret (pe_slice sl_str (pv 0) (po_some pe_int) po_none))) pss_nil)
    (pss_cons
    (ps_if (PW.pt (pw_and (pt_cmpR op_eq (pe_op op_mod (pe_callTy call_int1 rfl T.z_int (by decide +kernel) (pa_cons (pv 1) pa_nil)) pe_int) pe_int (nomark _)) (pw_and1 (pt_cmpR op_lt (pe_callB call_len_str rfl T.z_len PySem.boot_len (pa_cons (pv 0) pa_nil)) pe_int (nomark _))))) (pss_one
    (ps_ret (pe_join pe_str (pe_callB cr_sortedS rfl T.z_sorted (by decide +kernel) (pa_cons (pe_op op_cat (pe_callTy (call_listS rfl) rfl T.z_list (by decide +kernel) (pa_cons (pv 0) pa_nil)) (pe_lst (pa_cons (pv 4) pa_nil))) pa_nil))))) pss_nil)
    (pss_one
    (ps_ret (pe_join pe_str (pe_callB cr_sortedS rfl T.z_sorted (by decide +kernel) (pa_cons (pe_op op_cat (pe_callTy (call_listS rfl) rfl T.z_list (by decide +kernel) (pa_cons (pe_slice sl_str (pv 0) (po_some pe_int) po_none) pa_nil)) (pe_lst (pa_cons (pv 4) pa_nil))) pa_nil)))))))))), ?_⟩
  have h6 := hA.six
  have h1 := hA.pos
  refine q_asg (v := tx figs) (ev_is ev_c (by rw [figs_is])) fun H1 e1 => ?_
  refine q_asgL (el_out (x := figs) (al := al) (i := 0) (ev_var rfl) (by decide) (fun a => rfl) (fun a => rfl) (fun a => rfl)) fun l H2 hl e2 g2 => ?_
  obtain ⟨c0, hc0, hc1⟩ := figs_out hA
  have hpos := out_pos hc0 hc1
  obtain ⟨k, hk, ek⟩ := int_mod (x := z / 3) hpos
  obtain ⟨c, hc, hout, hat⟩ := filt_at hk
  refine q_asg (v := tx [c]) (ev_op (ev_var rfl) (ev_is (ev_mod (j := ((figs.filter fun c => !decide (c ∈ al)).length : Int)) (by omega) (ev_int (ev_div (i := z) (j := 3) (by decide) (by decide) (ev_var rfl) ev_c)) (ev_is (ev_cb (ea_cons (ev_var rfl) ea_nil) (rc_lenL (sq_of g2))) (by rw [List.length_map]))) (by rw [ek])) (rv_ixL (sq_of g2) (atI_nat hat))) fun H3 e3 => ?_
  have e13 := (e1.trans e2).trans e3
  have cl := figs_let c hc
  have mk : ∀ {bs ds : List Nat}, bs.Nodup → (∀ x ∈ bs, x ∈ al) → bs.length ≤ 5 → ds.Perm (bs ++ [c]) → ds.Pairwise (· < ·) → Alf ds ∧ ds ≠ al := by
    intro bs ds nd sub hb hp hd
    have hdl := hp.length_eq
    rw [List.length_append] at hdl
    have hdl : ds.length = bs.length + 1 := hdl
    refine ⟨⟨hd, by omega, by omega, fun d hd => ?_⟩, fun e => hout (by rw [← e]; exact hp.mem_iff.mpr (List.mem_append_right _ (List.mem_singleton.mpr rfl)))⟩
    rcases List.mem_append.mp (hp.mem_iff.mp hd) with h | h
    · exact hA.let' d (sub d h)
    · rw [List.mem_singleton.mp h]
      exact cl
  have ndc : ∀ {bs : List Nat}, bs.Nodup → (∀ x ∈ bs, x ∈ al) → (bs ++ [c]).Nodup := fun nd sub => List.nodup_append.mpr ⟨nd, List.pairwise_singleton _ _, fun a ha b hb e => hout (by rw [List.mem_singleton.mp hb] at e; exact e ▸ sub a ha)⟩
  have cut1 : cutL al (some ((1 : Nat) : Int)) none = al.drop 1 := cutL_from 1
  have ndd : (al.drop 1).Nodup := hA.nd.sublist (List.drop_sublist 1 al)
  have subd : ∀ x ∈ al.drop 1, x ∈ al := fun x hx => List.mem_of_mem_drop hx
  have dl : (al.drop 1).length = al.length - 1 := List.length_drop ..
  refine q_when (et_and (et_eqI (ev_mod (by decide) (ev_int (ev_var rfl)) ev_c) ev_c) fun _ => et_gt (ev_lenS (l := al) (by omega) (ev_var rfl)) ev_c) (fun hb H4 e4 => ?_) (fun hb H4 e4 => ?_)
  · rw [Bool.and_eq_true] at hb
    have hl2 := of_decide_eq_true hb.2
    refine s_ret (v := tx (al.drop 1)) (ev_is (ev_slS (l := al) (by omega) (ev_var rfl) (eo_some (i := ((1 : Nat) : Int)) ev_c) eo_none) (by rw [cut1])) fun H5 e5 => q _ ⟨?_, by omega, by omega, fun d hd => hA.let' d (subd d hd)⟩ (fun e => ?_) H5 ((e13.trans e4).trans e5)
    · exact List.Pairwise.sublist (List.drop_sublist 1 al) hA.asc
    · have := congrArg List.length e
      omega
  refine q_when (et_and (et_eqI (ev_mod (by decide) (ev_int (ev_var rfl)) ev_c) ev_c) fun _ => et_lt (ev_lenS (l := al) (by omega) (ev_var rfl)) ev_c) (fun hb2 H5 e5 => ?_) (fun hb2 H5 e5 => ?_)
  · rw [Bool.and_eq_true] at hb2
    have hl2 := of_decide_eq_true hb2.2
    have hlc : (al ++ [c]).length = al.length + 1 := by rw [List.length_append]; rfl
    refine s_retSJ (cs := al ++ [c]) ?_ (ndc hA.nd fun x hx => hx) (by omega) fun ds hp hd H6 e6 => ?_
    · rw [List.map_append]
      exact el_catL (el_listS (ev_var rfl) (by omega)) (el_lst (ea_cons (ev_var rfl) ea_nil) (by show 1 ≤ 100000; decide)) (by rw [List.length_map]; show _ + 1 ≤ _; omega)
    · obtain ⟨m1, m2⟩ := mk hA.nd (fun x hx => hx) (by omega) hp hd
      exact q ds m1 m2 H6 (((e13.trans e4).trans e5).trans e6)
  · have hlc : (al.drop 1 ++ [c]).length = al.length - 1 + 1 := by rw [List.length_append, dl]; rfl
    refine s_retSJ (cs := al.drop 1 ++ [c]) ?_ (ndc ndd subd) (by omega) fun ds hp hd H6 e6 => ?_
    · rw [List.map_append]
      exact el_catL (el_listS (ev_is (ev_slS (l := al) (by omega) (ev_var rfl) (eo_some (i := ((1 : Nat) : Int)) ev_c) eo_none) (by rw [cut1])) (by omega)) (el_lst (ea_cons (ev_var rfl) ea_nil) (by show 1 ≤ 100000; decide)) (by rw [List.length_map]; show _ + 1 ≤ _; omega)
    · obtain ⟨m1, m2⟩ := mk ndd subd (by omega) hp hd
      exact q ds m1 m2 H6 (((e13.trans e4).trans e5).trans e6)
end
end Ver
namespace Ver
open PySem PySem.Spec PyProof.Rows L2 Evl
def dOk (d : Option Addr) (H : Hp) : Prop := ∀ dd, d = some dd → ∃ fs, H dd = some (.xd fs)
theorem dOk.mono {d : Option Addr} {H H' : Hp} (h : dOk d H) (e : Ex H H') : dOk d H' := fun dd x => (h dd x).imp fun fs q => e _ _ q
theorem dOk_some {d : Addr} {H : Hp} {fs : List (Str × V)} (h : H d = some (.xd fs)) : dOk (some d) H := fun dd x => ⟨fs, by rw [← Option.some.inj x]; exact h⟩
theorem ev_isS {K : PySem.W.Frag} {σ : L2.St} {H : Hp} {ta tb : TE} {a D : Addr} {cls : Value} {d : Option Addr} {c : V} {cv : Value} {b : Bool} (ha : Ev ta σ H (.ref a)) (hb : Ev tb σ H c) (hc : cls = .ref D) (C : ExcC K D) (hd : dOk d H) (k : ClsV c cv) (e : PySem.W.kitOne K (.ref D) cv = some b) : Ev (tCB (rIsS K a cls d) (tCons ta (tCons tb tNil))) σ H (.bl b) := fun H1 x Q q =>
  ha H1 x _ fun H2 e2 => hb H2 (x.trans e2) _ fun H3 e3 => ⟨D, c, cv, b, rfl, hc, C, hd.mono ((x.trans e2).trans e3), k, e, q H3 (e2.trans e3)⟩
theorem q_go {σ : L2.St} {H : Hp} {D : Ends} {tb tz : TS} (h : tb { D with nx := tz D } σ H) : tSeq tb tz D σ H := h
theorem q_asgS {σ : L2.St} {H : Hp} {D : Ends} {tz : TS} {sp : Sp} {E : L2.St → XK} {ta : TA} {vs : List V} {i : Nat} (h : EvA ta σ H vs) (k : ∀ H1, Ex H H1 → sp vs H1 (fun v H2 => tz D (σ.set i (some v)) H2) (E σ)) : tSeq (tAsg (tCallS sp E ta) (gName i)) tz D σ H := h H (Ex.refl H) _ k
theorem rc_isiB {K : PySem.W.Frag} {n : Bool} {c : String} {b : Bool} {H : Hp} (h : kitB "bool" c = some b) : RC (rIsi K) [.bl n, .ty c] H (.bl b) := fun H1 _ _ q =>
  ⟨.bl n, .ty c, _, _, b, rfl, .ty c, .base (.bl n), kit_ty h, q H1 (Ex.refl H1)⟩
theorem s_retU {σ : L2.St} {H : Hp} {D : Ends} {te : TE} {xs : List V} (h : EvU te σ H xs) (k : ∀ p H1, H p = none → Ex H H1 → H1 p = some (.tup xs) → D.rt (.ref p) H1) : tRet te D σ H := h H (Ex.refl H) _ k
theorem eu_if {σ : L2.St} {H : Hp} {t : TT} {ta tb : TE} {xs : List V} {b : Bool} (h : EvT t σ H b) (h1 : b = true → EvU ta σ H xs) (h2 : b = false → EvU tb σ H xs) : EvU (tIf t ta tb) σ H xs := fun H1 e Q q => h H1 e _ fun H2 e2 => by
  cases b with
  | true => exact h1 rfl H2 (e.trans e2) Q fun p H3 hp e3 g3 => q p H3 (fresh_back e2 hp) (e2.trans e3) g3
  | false => exact h2 rfl H2 (e.trans e2) Q fun p H3 hp e3 g3 => q p H3 (fresh_back e2 hp) (e2.trans e3) g3
section
variable {P : Program} {w : World} {K : PySem.W.Frag} {mg : Str → Option Value} {base : Heap} {C_Machine : Addr} {C_PressError : Addr} {C_BadAlphabet : Addr} {C_BadLetter : Addr} {C_BadStanding : Addr} {C_BadRule : Addr} {C_AlphabetsDiffer : Addr}
/-! ### _law_told -/
def tld (al al2 b c : List Nat) (R1 R2 : Tbl) (xs : List V) : Prop :=
  (al ≠ al2 ∧ xs = [.str ("differ" : Str), tx al, tx al2]) ∨ (al = al2 ∧ ∃ k, bad1 al b k ∧ xs = [.str ("letter" : Str), .int (k : Int)]) ∨ (al = al2 ∧ (∀ x ∈ b, x ∈ al) ∧ ∃ k, bad1 al c k ∧ xs = [.str ("letter" : Str), .int (k : Int)]) ∨
    (al = al2 ∧ (∀ x ∈ b, x ∈ al) ∧ (∀ x ∈ c, x ∈ al) ∧ xs = [.str (if lead R1 R2 al b c = true then ("yes" : Str) else ("no" : Str))])
def spTld (C : Addr) : Sp := fun vs H Q _ => ∃ (p p2 : Addr) (al al2 b c : List Nat) (R1 R2 : Tbl) (xs : List V), vs = [.ref p, .ref p2, tx b, tx c] ∧ MchAt C H p al R1 ∧ MchAt C H p2 al2 R2 ∧ b.length ≤ 1000 ∧ c.length ≤ 1000 ∧ tld al al2 b c R1 R2 xs ∧ RetU xs H Q
theorem has_tld (F : At K mg "_law_told" s__law_told) (T : Top K mg C_Machine) (TE : ETop K mg C_PressError C_BadAlphabet C_BadLetter C_BadStanding C_BadRule C_AlphabetsDiffer) (GE_AlphabetsDiffer : Er_AlphabetsDiffer P w K mg base C_AlphabetsDiffer) (GE_BadLetter : Er_BadLetter P w K mg base C_BadLetter)
    (h1 : HasX P w K mg base "is_lead_loop" s_is_lead_loop ["one", "two", "begin", "loop"] 6 (spLl C_Machine C_BadLetter C_AlphabetsDiffer)) : Has P w K mg base "_law_told" s__law_told ["this", "that", "opening", "circle"] 7 (spTld C_Machine) := by
  obtain ⟨f, fd, F, m⟩ := F.ex
  obtain ⟨f1, fd1, _, GX_is_lead_loop, b_is_lead_loop, m_is_lead_loop, k_is_lead_loop⟩ := h1
  refine ⟨f, fd, F, F.ok S__law_told (fun vs H Q E h => ?_) (fun cdv A outer s H vs Q E hr h => ?_), F.binds fun _ _ _ _ _ _ us hl => match us, hl with | [_, _, _, _], _ => rfl, m, F.kp⟩
  · obtain ⟨p, p2, al, al2, b, c, R1, R2, xs, rfl, _⟩ := h
    rfl
  obtain ⟨p, p2, al, al2, b, c, R1, R2, xs, rfl, hM, hM2, zb, zc, ans, q⟩ := h
  refine ⟨_, (pss_cons
    (ps_try_mas (i := 5) rfl rfl S__law_told.nd rfl rfl takes0 (fun W pn xe tk _ => (by exact (pss_cons
    (ps_set (i := 4) S__law_told.nd rfl (Or.inl rfl) (pe_callS GX_is_lead_loop (hr.mono (by decide)) rfl m_is_lead_loop k_is_lead_loop b_is_lead_loop (fun σ => passAt tk σ) (pa_cons (pv 0) (pa_cons (pv 1) (pa_cons (pv 2) (pa_cons (pv 3) pa_nil))))))
    (pss_cons
    (ps_if (pt_not (pt_val (by exact (pe_callB (id := "isinstance") (call_isiK (K := K) rfl) rfl T.z_isinstance (by decide +kernel) (pa_cons (pv 4) (pa_cons (pe_bltn (v := .ty "bool") rfl T.z_bool (by decide +kernel) rfl) pa_nil)))))) (pss_one
    (ps_ret (pe_tup (pa_cons pe_str pa_nil)))) pss_nil)
    (pss_one
    (ps_ret (pe_ifExp (pt_val (pv 4)) (pe_tup (pa_cons pe_str pa_nil)) (pe_tup (pa_cons pe_str pa_nil))))))))) (by exact (HdsAs.cons ⟨rfl, by decide, .inl TE.c_PressError⟩ (fun a oe cls d pn hz hf => (by exact (pss_cons
    (ps_if (pt_not (pt_val (by exact (pe_callB (id := "isinstance") (call_isS (p := (a, oe)) (a := a) (K := K) rfl rfl List.mem_cons_self hz hf) rfl T.z_isinstance (by decide +kernel) (pa_cons (pv 5) (pa_cons (pe_bltn (v := .ty "ValueError") rfl T.z_ValueError (by decide +kernel) rfl) pa_nil)))))) (pss_one
    (ps_ret (pe_tup (pa_cons pe_str pa_nil)))) pss_nil)
    (pss_cons
    (ps_if (PW.pt (pw_and (pt_val (by exact (pe_callB (id := "isinstance") (call_isS (p := (a, oe)) (a := a) (K := K) rfl rfl List.mem_cons_self hz hf) rfl T.z_isinstance (by decide +kernel) (pa_cons (pv 5) (pa_cons (pe_glob (v := .ref C_AlphabetsDiffer) rfl TE.c_AlphabetsDiffer rfl) pa_nil))))) (pw_and1 (pt_not (pt_val (by exact (pe_callB (id := "isinstance") (call_isS (p := (a, oe)) (a := a) (K := K) rfl rfl List.mem_cons_self hz hf) rfl T.z_isinstance (by decide +kernel) (pa_cons (pv 5) (pa_cons (pe_glob (v := .ref C_BadLetter) rfl TE.c_BadLetter rfl) pa_nil))))))))) (pss_one
    (ps_ret (pe_tup (pa_cons pe_str (pa_cons (by exact pe_xpS (p := (a, oe)) (a := a) (K := K) rfl rfl List.mem_cons_self hz hf (pv 5)) (pa_cons (by exact pe_xpS (p := (a, oe)) (a := a) (K := K) rfl rfl List.mem_cons_self hz hf (pv 5)) pa_nil)))))) pss_nil)
    (pss_one
    (ps_if (PW.pt (pw_and (pt_val (by exact (pe_callB (id := "isinstance") (call_isS (p := (a, oe)) (a := a) (K := K) rfl rfl List.mem_cons_self hz hf) rfl T.z_isinstance (by decide +kernel) (pa_cons (pv 5) (pa_cons (pe_glob (v := .ref C_BadLetter) rfl TE.c_BadLetter rfl) pa_nil))))) (pw_and1 (pt_not (pt_val (by exact (pe_callB (id := "isinstance") (call_isS (p := (a, oe)) (a := a) (K := K) rfl rfl List.mem_cons_self hz hf) rfl T.z_isinstance (by decide +kernel) (pa_cons (pv 5) (pa_cons (pe_glob (v := .ref C_AlphabetsDiffer) rfl TE.c_AlphabetsDiffer rfl) pa_nil))))))))) (pss_one
    (ps_ret (pe_tup (pa_cons pe_str (pa_cons (by exact pe_xpS (p := (a, oe)) (a := a) (K := K) rfl rfl List.mem_cons_self hz hf (pv 5)) pa_nil))))) pss_nil)))))) HdsAs.nil)))
    (pss_one
    (ps_ret (pe_tup (pa_cons pe_str pa_nil))))), ?_⟩
  have xD := GE_AlphabetsDiffer.ec
  have xL := GE_BadLetter.ec
  refine q_go ?_
  refine q_asgS (vs := [.ref p, .ref p2, tx b, tx c]) (ea_cons (ev_var rfl) (ea_cons (ev_var rfl) (ea_cons (ev_var rfl) (ea_cons (ev_var rfl) ea_nil)))) fun H1 e1 => ⟨p, p2, al, al2, b, c, R1, R2, rfl, hM.mono e1, hM2.mono e1, zb, zc, ?_⟩
  have bad : ∀ {k : Nat} {E : XK}, RetU [.str ("letter" : Str), .int (k : Int)] H Q → (∀ d H2, Ex H1 H2 → H2 d = some (.xd [("index", .int (k : Int))]) → E (.ref C_BadLetter) (some d) H2) → RetE C_BadLetter [("index", .int (k : Int))] H1 E := fun _ h d H2 e2 _ h2 => h d H2 e2 h2
  rcases ans with ⟨hne, rfl⟩ | ⟨hal, k, hb, rfl⟩ | ⟨hal, hb, k, hc, rfl⟩ | ⟨hal, hb, hc, rfl⟩
  · refine .inl ⟨hne, fun d H2 e2 hd h2 => ?_⟩
    refine ⟨true, TE.ex_AlphabetsDiffer_PressError, fun _ a ha => ?_, fun z => (nomatch z)⟩
    have dd := dOk_some h2
    refine q_skip (et_is (et_not (et_B (ev_isS (ev_var rfl) ev_c rfl xD dd (.ty _) TE.kt_AlphabetsDiffer_VE))) rfl) fun H3 e3 => ?_
    refine q_take (et_is (et_and (et_B (ev_isS (ev_var rfl) ev_c rfl xD (dd.mono e3) (.own _) TE.kt_AlphabetsDiffer_AlphabetsDiffer)) fun _ => et_not (et_B (ev_isS (ev_var rfl) ev_c rfl xD (dd.mono e3) (.own _) TE.kt_AlphabetsDiffer_BadLetter))) rfl) fun H4 e4 => ?_
    have h4 := e4 _ _ (e3 _ _ h2)
    have ex4 := ((e1.trans e2).trans e3).trans e4
    exact s_retU (eu_tup (ea_cons ev_c (ea_cons (ev_xpS (ev_var rfl) rfl GE_AlphabetsDiffer.xf TE.nf_AlphabetsDiffer_one rfl h4 rfl) (ea_cons (ev_xpS (ev_var rfl) rfl GE_AlphabetsDiffer.xf TE.nf_AlphabetsDiffer_two rfl h4 rfl) ea_nil))) (by show 3 ≤ 100000; decide)) fun l H5 hl e5 g5 => q l H5 (fresh_back ex4 hl) (ex4.trans e5) g5
  · refine .inr (.inl ⟨hal, k, hb, fun d H2 e2 hd h2 => ?_⟩)
    refine ⟨true, TE.ex_BadLetter_PressError, fun _ a ha => ?_, fun z => (nomatch z)⟩
    have dd := dOk_some h2
    refine q_skip (et_is (et_not (et_B (ev_isS (ev_var rfl) ev_c rfl xL dd (.ty _) TE.kt_BadLetter_VE))) rfl) fun H3 e3 => ?_
    refine q_skip (et_is (et_and (et_B (ev_isS (ev_var rfl) ev_c rfl xL (dd.mono e3) (.own _) TE.kt_BadLetter_AlphabetsDiffer)) fun _ => et_not (et_B (ev_isS (ev_var rfl) ev_c rfl xL (dd.mono e3) (.own _) TE.kt_BadLetter_BadLetter))) rfl) fun H4 e4 => ?_
    refine s_when (b := true) (et_is (et_and (et_B (ev_isS (ev_var rfl) ev_c rfl xL (dd.mono (e3.trans e4)) (.own _) TE.kt_BadLetter_BadLetter)) fun _ => et_not (et_B (ev_isS (ev_var rfl) ev_c rfl xL (dd.mono (e3.trans e4)) (.own _) TE.kt_BadLetter_AlphabetsDiffer))) rfl) (fun _ H5 e5 => ?_) (fun z => nomatch z)
    have h5 := e5 _ _ (e4 _ _ (e3 _ _ h2))
    have ex5 := (((e1.trans e2).trans e3).trans e4).trans e5
    exact s_retU (eu_tup (ea_cons ev_c (ea_cons (ev_xpS (ev_var rfl) rfl GE_BadLetter.xf TE.nf_BadLetter_index rfl h5 rfl) ea_nil)) (by show 2 ≤ 100000; decide)) fun l H6 hl e6 g6 => q l H6 (fresh_back ex5 hl) (ex5.trans e6) g6
  · refine .inr (.inr (.inl ⟨hal, hb, k, hc, fun d H2 e2 hd h2 => ?_⟩))
    refine ⟨true, TE.ex_BadLetter_PressError, fun _ a ha => ?_, fun z => (nomatch z)⟩
    have dd := dOk_some h2
    refine q_skip (et_is (et_not (et_B (ev_isS (ev_var rfl) ev_c rfl xL dd (.ty _) TE.kt_BadLetter_VE))) rfl) fun H3 e3 => ?_
    refine q_skip (et_is (et_and (et_B (ev_isS (ev_var rfl) ev_c rfl xL (dd.mono e3) (.own _) TE.kt_BadLetter_AlphabetsDiffer)) fun _ => et_not (et_B (ev_isS (ev_var rfl) ev_c rfl xL (dd.mono e3) (.own _) TE.kt_BadLetter_BadLetter))) rfl) fun H4 e4 => ?_
    refine s_when (b := true) (et_is (et_and (et_B (ev_isS (ev_var rfl) ev_c rfl xL (dd.mono (e3.trans e4)) (.own _) TE.kt_BadLetter_BadLetter)) fun _ => et_not (et_B (ev_isS (ev_var rfl) ev_c rfl xL (dd.mono (e3.trans e4)) (.own _) TE.kt_BadLetter_AlphabetsDiffer))) rfl) (fun _ H5 e5 => ?_) (fun z => nomatch z)
    have h5 := e5 _ _ (e4 _ _ (e3 _ _ h2))
    have ex5 := (((e1.trans e2).trans e3).trans e4).trans e5
    exact s_retU (eu_tup (ea_cons ev_c (ea_cons (ev_xpS (ev_var rfl) rfl GE_BadLetter.xf TE.nf_BadLetter_index rfl h5 rfl) ea_nil)) (by show 2 ≤ 100000; decide)) fun l H6 hl e6 g6 => q l H6 (fresh_back ex5 hl) (ex5.trans e6) g6
  · refine .inr (.inr (.inr ⟨hal, hb, hc, fun H2 e2 => ?_⟩))
    have e12 := e1.trans e2
    refine q_skip (et_is (et_not (et_B (ev_cb (ea_cons (ev_var rfl) (ea_cons ev_c ea_nil)) (rc_isiB (b := true) (by decide +kernel))))) rfl) fun H3 e3 => ?_
    refine s_retU (eu_if (et_B (ev_var rfl)) (fun hl => eu_tup (ea_cons (ev_is ev_c (by rw [if_pos hl])) ea_nil) (by show 1 ≤ 100000; decide)) (fun hl => eu_tup (ea_cons (ev_is ev_c (by rw [hl]; rfl)) ea_nil) (by show 1 ≤ 100000; decide))) fun l H5 hl e5 g5 => q l H5 (fresh_back (e12.trans e3) hl) ((e12.trans e3).trans e5) g5
end
end Ver
namespace Ver
open PySem PySem.Spec PyProof.Rows L2 Evl
def Fl (x : V) : Prop := ∃ d, (∀ K H, Dp K H x d) ∧ PyData.canLay0 d = true ∧ PyData.depth d ≤ 0
theorem fl_str {s : Str} (h : PyData.canLay0 (.str s) = true) : Fl (.str s) := ⟨.str s, fun _ _ => .str s, h, by simp [PyData.depth]⟩
theorem fl_tx {l : List Nat} (h : ∀ c ∈ l, c < 1114112) : Fl (tx l) := ⟨.str (SX.S l), fun _ _ => .str _, lay_tx h⟩
theorem fl_int {i : Int} : Fl (.int i) := ⟨.int i, fun _ _ => .int i, by simp [PyData.canLay0], by simp [PyData.depth]⟩
def FlA (xs : List V) : Prop := ∃ ds, (∀ K H, DpAll K H xs ds) ∧ ∀ d ∈ ds, PyData.canLay0 d = true ∧ PyData.depth d ≤ 0
theorem fla_nil : FlA [] := ⟨[], fun _ _ => .nil, fun d h => by cases h⟩
theorem fla_cons {x : V} {xs : List V} (h : Fl x) (t : FlA xs) : FlA (x :: xs) := by
  obtain ⟨d, h1, h2⟩ := h
  obtain ⟨ds, g1, g2⟩ := t
  exact ⟨d :: ds, fun K H => .cons (h1 K H) (g1 K H), fun e he => by
    rcases List.mem_cons.mp he with rfl | he
    · exact h2
    · exact g2 e he⟩
section
variable {K : PySem.W.Frag} {σ : L2.St} {H : Hp} {ta tb : TE} {xs : List V}
theorem ev_neUU (fl : FlA xs) (ha : EvU ta σ H xs) (hb : EvU tb σ H xs) : Ev (tOp (rNeD K) ta tb) σ H (.bl false) := fun H0 e Q q => by
  obtain ⟨ds, g1, g2⟩ := fl
  have sh := shaped_tup (ds := ds) (n := 0) g2 (by decide)
  exact ha H0 e _ fun p H1 _ e1 h1 => hb H1 (e.trans e1) _ fun r H2 _ e2 h2 => rv_neSame sh (fun H3 e3 => .tup (st_of (e3 _ _ (e2 _ _ h1))) (g1 K H3)) (fun H3 e3 => .tup (st_of (e3 _ _ h2)) (g1 K H3)) H2 (Ex.refl H2) Q fun H4 e4 => q H4 ((e1.trans e2).trans e4)
theorem ev_eqUU (fl : FlA xs) (ha : EvU ta σ H xs) (hb : EvU tb σ H xs) : Ev (tOp (rEqD K) ta tb) σ H (.bl true) := fun H0 e Q q => by
  obtain ⟨ds, g1, g2⟩ := fl
  have sh := shaped_tup (ds := ds) (n := 0) g2 (by decide)
  exact ha H0 e _ fun p H1 _ e1 h1 => hb H1 (e.trans e1) _ fun r H2 _ e2 h2 => rv_eqSame sh (fun H3 e3 => .tup (st_of (e3 _ _ (e2 _ _ h1))) (g1 K H3)) (fun H3 e3 => .tup (st_of (e3 _ _ h2)) (g1 K H3)) H2 (Ex.refl H2) Q fun H4 e4 => q H4 ((e1.trans e2).trans e4)
/-- a tuple that lies there, and a new one -/
theorem ev_neVU {p : Addr} (fl : FlA xs) (ha : Ev ta σ H (.ref p)) (hp : H p = some (.tup xs)) (hb : EvU tb σ H xs) : Ev (tOp (rNeD K) ta tb) σ H (.bl false) := fun H0 e Q q => by
  obtain ⟨ds, g1, g2⟩ := fl
  have sh := shaped_tup (ds := ds) (n := 0) g2 (by decide)
  exact ha H0 e _ fun H1 e1 => hb H1 (e.trans e1) _ fun r H2 _ e2 h2 => rv_neSame sh (fun H3 e3 => .tup (st_of (((e.trans e1).trans (e2.trans e3)) _ _ hp)) (g1 K H3)) (fun H3 e3 => .tup (st_of (e3 _ _ h2)) (g1 K H3)) H2 (Ex.refl H2) Q fun H4 e4 => q H4 ((e1.trans e2).trans e4)
end
theorem su_tld {C : Addr} {p p2 : Addr} {al al2 b c : List Nat} {R1 R2 : Tbl} {xs : List V} {H : Hp} (hM : MchAt C H p al R1) (hM2 : MchAt C H p2 al2 R2) (zb : b.length ≤ 1000) (zc : c.length ≤ 1000) (t : tld al al2 b c R1 R2 xs) : SpU (spTld C) ([.ref p, .ref p2, tx b, tx c] ++ []) H xs := fun H1 e Q q E => ⟨p, p2, al, al2, b, c, R1, R2, xs, rfl, hM.mono e, hM2.mono e, zb, zc, t, q⟩
theorem sv_due {al b c : List Nat} {R1 R2 : Tbl} {x y : V} {H : Hp} (rc : Rc al R1 R2) (hx : TabP R1 H x) (hy : TabP R2 H y) (hb : ∀ z ∈ b, z ∈ al) (hc : ∀ z ∈ c, z ∈ al) (zb : b.length ≤ 1000) (zc : c.length ≤ 1000) : SpV spDue ([tx al, x, y, tx b, tx c] ++ []) H (.bl (lead R1 R2 al b c)) := fun H1 e Q q E => ⟨al, b, c, R1, R2, x, y, rfl, rc, tab_sol.mono e hx, tab_sol.mono e hy, hb, hc, zb, zc, q⟩
theorem lead_same {R : Tbl} {al b c : List Nat} : lead R R al b c = false := by
  unfold lead
  rw [decide_eq_false (show ¬ (out R al (fin R al 0 b) c).length < (out R al (fin R al 0 b) c).length from Nat.lt_irrefl _), Bool.and_false, Bool.and_false]
theorem Rc.turn {al : List Nat} {R1 R2 : Tbl} (h : Rc al R1 R2) : Rc al R2 R1 := ⟨h.o2, h.o1, h.A⟩
theorem fla_yn {b : Bool} : FlA [.str (if b = true then ("yes" : Str) else ("no" : Str))] := by
  cases b with
  | true => exact fla_cons (fl_str (by decide +kernel)) fla_nil
  | false => exact fla_cons (fl_str (by decide +kernel)) fla_nil
section
variable {P : Program} {w : World} {K : PySem.W.Frag} {mg : Str → Option Value} {base : Heap} {C_Machine : Addr} {C_PressError : Addr} {C_BadAlphabet : Addr} {C_BadLetter : Addr} {C_BadStanding : Addr} {C_BadRule : Addr} {C_AlphabetsDiffer : Addr}
/-! ### _law_fits -/
def spFit (C : Addr) : Sp := fun vs H Q _ => ∃ (al : List Nat) (ms cs p p2 : Addr) (R1 R2 : Tbl) (x y : V) (ys : List V), vs = [tx al, .ref ms, x, y, .ref cs] ∧ H ms = some (.lst [.ref p, .ref p2]) ∧ MchAt C H p al R1 ∧ MchAt C H p2 al R2 ∧ Rc al R1 R2 ∧ TabP R1 H x ∧ TabP R2 H y ∧ H cs = some (.lst ys) ∧ CsAt al 400 H ys ∧ RetV (.bl true) H Q
theorem has_fit (F : At K mg "_law_fits" s__law_fits) (T : Top K mg C_Machine) (h1 : Has P w K mg base "_law_due" s__law_due ["alphabet", "this", "that", "opening", "circle"] 2 spDue) (h2 : Has P w K mg base "_law_told" s__law_told ["this", "that", "opening", "circle"] 7 (spTld C_Machine)) : Has P w K mg base "_law_fits" s__law_fits ["alphabet", "machines", "this", "that", "cases"] 8 (spFit C_Machine) := by
  obtain ⟨f, fd, F, m⟩ := F.ex
  obtain ⟨f1, fd1, _, G__law_due, b__law_due, m__law_due, k__law_due⟩ := h1
  obtain ⟨f2, fd2, _, G__law_told, b__law_told, m__law_told, k__law_told⟩ := h2
  refine ⟨f, fd, F, F.ok S__law_fits (fun vs H Q E h => ?_) (fun cdv A outer s H vs Q E hr h => ?_), F.binds fun _ _ _ _ _ _ us hl => match us, hl with | [_, _, _, _, _], _ => rfl, m, F.kp⟩
  · obtain ⟨al, ms, cs, p, p2, R1, R2, x, y, ys, rfl, _⟩ := h
    rfl
  obtain ⟨al, ms, cs, p, p2, R1, R2, x, y, ys, rfl, hms, hM, hM2, rc, hx, hy, hcs, hC, q⟩ := h
  refine ⟨_, (pss_cons
    (ps_for PassesOwn.never rfl (pi_list (pv 4)) (pg_name (i := 5) S__law_fits.nd rfl (Or.inl rfl)) (pss_cons
    (ps_set (i := 6) S__law_fits.nd rfl (Or.inl rfl) (pe_call G__law_due (hr.mono (by decide)) rfl m__law_due k__law_due b__law_due .nil pass0 (pa_cons (pv 0) (pa_cons (pv 2) (pa_cons (pv 3) (pa_cons (pe_ix (r := rIxL K) ix_list (pv 5) pe_int (fun _ _ => rfl)) (pa_cons (pe_ix (r := rIxL K) ix_list (pv 5) pe_int (fun _ _ => rfl)) pa_nil)))))))
    (pss_cons
    (ps_if (pt_cmpR (op_neD hr.units) (pe_call G__law_told (hr.mono (by decide)) rfl m__law_told k__law_told b__law_told .nil pass0 (pa_cons (pe_ix (r := rIxL K) ix_list (pv 1) pe_int (fun _ _ => rfl)) (pa_cons (pe_ix (r := rIxL K) ix_list (pv 1) pe_int (fun _ _ => rfl)) (pa_cons (pe_ix (r := rIxL K) ix_list (pv 5) pe_int (fun _ _ => rfl)) (pa_cons (pe_ix (r := rIxL K) ix_list (pv 5) pe_int (fun _ _ => rfl)) pa_nil))))) (pe_tup (pa_cons (pe_ifExp (pt_val (pv 6)) pe_str pe_str) pa_nil)) (nomark _)) (pss_one
    (ps_ret pe_bl)) pss_nil)
    (pss_cons
    (ps_set (i := 6) S__law_fits.nd rfl (Or.inl rfl) (pe_call G__law_due (hr.mono (by decide)) rfl m__law_due k__law_due b__law_due .nil pass0 (pa_cons (pv 0) (pa_cons (pv 3) (pa_cons (pv 2) (pa_cons (pe_ix (r := rIxL K) ix_list (pv 5) pe_int (fun _ _ => rfl)) (pa_cons (pe_ix (r := rIxL K) ix_list (pv 5) pe_int (fun _ _ => rfl)) pa_nil)))))))
    (pss_cons
    (ps_if (pt_cmpR (op_neD hr.units) (pe_call G__law_told (hr.mono (by decide)) rfl m__law_told k__law_told b__law_told .nil pass0 (pa_cons (pe_ix (r := rIxL K) ix_list (pv 1) pe_int (fun _ _ => rfl)) (pa_cons (pe_ix (r := rIxL K) ix_list (pv 1) pe_int (fun _ _ => rfl)) (pa_cons (pe_ix (r := rIxL K) ix_list (pv 5) pe_int (fun _ _ => rfl)) (pa_cons (pe_ix (r := rIxL K) ix_list (pv 5) pe_int (fun _ _ => rfl)) pa_nil))))) (pe_tup (pa_cons (pe_ifExp (pt_val (pv 6)) pe_str pe_str) pa_nil)) (nomark _)) (pss_one
    (ps_ret pe_bl)) pss_nil)
    (pss_one
    (ps_if (pt_cmpR (op_neD hr.units) (pe_call G__law_told (hr.mono (by decide)) rfl m__law_told k__law_told b__law_told .nil pass0 (pa_cons (pe_ix (r := rIxL K) ix_list (pv 1) pe_int (fun _ _ => rfl)) (pa_cons (pe_ix (r := rIxL K) ix_list (pv 1) pe_int (fun _ _ => rfl)) (pa_cons (pe_ix (r := rIxL K) ix_list (pv 5) pe_int (fun _ _ => rfl)) (pa_cons (pe_ix (r := rIxL K) ix_list (pv 5) pe_int (fun _ _ => rfl)) pa_nil))))) (pe_tup (pa_cons pe_str pa_nil)) (nomark _)) (pss_one
    (ps_ret pe_bl)) pss_nil)))))))
    (pss_one
    (ps_ret pe_bl))), ?_⟩
  refine q_forLn (ev_var rfl) (sq_of hcs) (fun i σ' H' => ∃ u5 u6 : Option V, σ' = [some (tx al), some (.ref ms), some x, some y, some (.ref cs), u5, u6] ∧ Ex H H') (fun H1 e1 => ⟨none, none, rfl, e1⟩) (fun i σ' H' hi z => ?_) ?_ ?_
  · obtain ⟨_, _, _, e⟩ := z
    exact sq_of (e _ _ hcs)
  · rintro i z σ' H' hz ⟨u5, u6, rfl, e1⟩
    obtain ⟨r, b, c, rfl, hr', hb, hc⟩ := hC z (List.mem_of_getElem? hz)
    have zb := hb.2
    have zc := hc.2
    have c0 : ∀ {σ : L2.St} {H1 : Hp}, Ex H H1 → σ[5]? = some (some (.ref r)) → Ev (tOp (rIxL K) (tVar 5) (tC (.int 0))) σ H1 (tx b) := fun e h => ev_op (ev_var h) ev_c (rv_ixL (sq_of (e _ _ hr')) (atI_nat (j := 0) rfl))
    have c1 : ∀ {σ : L2.St} {H1 : Hp}, Ex H H1 → σ[5]? = some (some (.ref r)) → Ev (tOp (rIxL K) (tVar 5) (tC (.int 1))) σ H1 (tx c) := fun e h => ev_op (ev_var h) ev_c (rv_ixL (sq_of (e _ _ hr')) (atI_nat (j := 1) rfl))
    have m0 : ∀ {σ : L2.St} {H1 : Hp}, Ex H H1 → σ[1]? = some (some (.ref ms)) → Ev (tOp (rIxL K) (tVar 1) (tC (.int 0))) σ H1 (.ref p) := fun e h => ev_op (ev_var h) ev_c (rv_ixL (sq_of (e _ _ hms)) (atI_nat (j := 0) rfl))
    have m1 : ∀ {σ : L2.St} {H1 : Hp}, Ex H H1 → σ[1]? = some (some (.ref ms)) → Ev (tOp (rIxL K) (tVar 1) (tC (.int 1))) σ H1 (.ref p2) := fun e h => ev_op (ev_var h) ev_c (rv_ixL (sq_of (e _ _ hms)) (atI_nat (j := 1) rfl))
    have yn : ∀ {σ : L2.St} {H1 : Hp} {d : Bool}, σ[6]? = some (some (.bl d)) → EvU (tTup (tCons (tIf (tB (tVar 6)) (tC (.str ("yes" : Str))) (tC (.str ("no" : Str)))) tNil)) σ H1 [.str (if d = true then ("yes" : Str) else ("no" : Str))] := fun h => eu_tup (ea_cons (ev_if (et_B (ev_var h)) (fun hd => ev_is ev_c (by rw [if_pos hd])) (fun hd => ev_is ev_c (by rw [hd]; rfl))) ea_nil) (by show 1 ≤ 100000; decide)
    refine q_asg (ev_call (ea_cons (ev_var rfl) (ea_cons (ev_var rfl) (ea_cons (ev_var rfl) (ea_cons (c0 e1 rfl) (ea_cons (c1 e1 rfl) ea_nil))))) (sv_due rc (tab_sol.mono e1 hx) (tab_sol.mono e1 hy) hb.1 hc.1 (by omega) (by omega))) fun H2 e2 => ?_
    have e12 := e1.trans e2
    refine q_skip (et_test (ev_neUU fla_yn (eu_call (ea_cons (m0 e12 rfl) (ea_cons (m1 e12 rfl) (ea_cons (c0 e12 rfl) (ea_cons (c1 e12 rfl) ea_nil)))) (su_tld (hM.mono e12) (hM2.mono e12) (by omega) (by omega) (.inr (.inr (.inr ⟨rfl, hb.1, hc.1, rfl⟩))))) (yn rfl))) fun H3 e3 => ?_
    have e13 := e12.trans e3
    refine q_asg (ev_call (ea_cons (ev_var rfl) (ea_cons (ev_var rfl) (ea_cons (ev_var rfl) (ea_cons (c0 e13 rfl) (ea_cons (c1 e13 rfl) ea_nil))))) (sv_due rc.turn (tab_sol.mono e13 hy) (tab_sol.mono e13 hx) hb.1 hc.1 (by omega) (by omega))) fun H4 e4 => ?_
    have e14 := e13.trans e4
    refine q_skip (et_test (ev_neUU fla_yn (eu_call (ea_cons (m1 e14 rfl) (ea_cons (m0 e14 rfl) (ea_cons (c0 e14 rfl) (ea_cons (c1 e14 rfl) ea_nil)))) (su_tld (hM2.mono e14) (hM.mono e14) (by omega) (by omega) (.inr (.inr (.inr ⟨rfl, hb.1, hc.1, rfl⟩))))) (yn rfl))) fun H5 e5 => ?_
    have e15 := e14.trans e5
    refine s_when (b := false) (et_test (ev_neUU (xs := [.str ("no" : Str)]) (fla_cons (fl_str (by decide +kernel)) fla_nil) (eu_call (ea_cons (m0 e15 rfl) (ea_cons (m0 e15 rfl) (ea_cons (c0 e15 rfl) (ea_cons (c1 e15 rfl) ea_nil)))) (su_tld (hM.mono e15) (hM.mono e15) (by omega) (by omega) (.inr (.inr (.inr ⟨rfl, hb.1, hc.1, by rw [lead_same]; rfl⟩))))) (eu_tup (ea_cons ev_c ea_nil) (by show 1 ≤ 100000; decide)))) (fun z => nomatch z) fun _ H6 e6 => ⟨_, _, rfl, e15.trans e6⟩
  · rintro σ' H' ⟨u5, u6, rfl, e1⟩
    exact s_ret ev_c fun H2 e2 => q H2 (e1.trans e2)
theorem sv_fit {C : Addr} {al : List Nat} {ms cs p p2 : Addr} {R1 R2 : Tbl} {x y : V} {ys : List V} {H : Hp} (hms : H ms = some (.lst [.ref p, .ref p2])) (hM : MchAt C H p al R1) (hM2 : MchAt C H p2 al R2) (rc : Rc al R1 R2) (hx : TabP R1 H x) (hy : TabP R2 H y) (hcs : H cs = some (.lst ys)) (hC : CsAt al 400 H ys) : SpV (spFit C) ([tx al, .ref ms, x, y, .ref cs] ++ []) H (.bl true) := fun H1 e Q q E => ⟨al, ms, cs, p, p2, R1, R2, x, y, ys, rfl, e _ _ hms, hM.mono e, hM2.mono e, rc, tab_sol.mono e hx, tab_sol.mono e hy, e _ _ hcs, hC.mono e, q⟩
end
end Ver
namespace Ver
open PySem PySem.Spec PyProof.Rows L2 Evl
section
variable {P : Program} {w : World} {K : PySem.W.Frag} {mg : Str → Option Value} {base : Heap} {C_Machine : Addr}
theorem has_nb (F : At K mg "number_bits" s_number_bits) (T : Top K mg C_Machine) (hW : Has P w K mg base "width" s_width ["options"] 1 spWidth) : Has P w K mg base "number_bits" s_number_bits ["number", "options"] 2 spNb := by
  obtain ⟨f, fd, F, m⟩ := F.ex
  obtain ⟨f1, fd1, _, G_width, b_width, m_width, k_width⟩ := hW
  refine ⟨f, fd, F, F.ok S_number_bits (fun vs H Q E h => ?_) (fun cdv A outer s H vs Q E hr h => ?_), F.binds fun _ _ _ _ _ _ us hl => match us, hl with | [_, _], _ => rfl, m, F.kp⟩
  · obtain ⟨n, m, rfl, _⟩ := h
    rfl
  obtain ⟨n, m, rfl, h0, hm, hB, q⟩ := h
  refine ⟨_, (pss_cons
    (ps_set (i := 2) S_number_bits.nd rfl (Or.inl rfl) (pe_call G_width (hr.mono (by decide)) rfl m_width k_width b_width .nil pass0 (pa_cons (pv 1) pa_nil)))
    (pss_cons
    (ps_if (pt_cmpR op_eq (pv 2) pe_int (nomark _)) (pss_one
    (ps_ret pe_str)) pss_nil)
    (pss_cons
    (ps_set (i := 3) S_number_bits.nd rfl (Or.inl rfl) (pe_joined1 (pe_bin (pv 0) (pe_joined1 pe_str))))
    (pss_one
    (ps_ret (pe_bm PySem.F.plainAttrs_str PySem.F.slot_str_zfill PySem.F.type_str_zfill mt_zfill (pv 3) (pa_cons (pv 2) pa_nil))))))), ?_⟩
  have hlt := bits_lt h0 hm
  have hb0 := bits_nn m
  have hb1 := bits_le (b := 1000) (by omega) hB
  have ew : bitsOf m = (((bitsOf m).toNat : Nat) : Int) := by omega
  have en : n = ((n.toNat : Nat) : Int) := by omega
  refine q_asg (ev_call (ea_cons (ev_var rfl) ea_nil) sv_width) fun H1 e1 => ?_
  refine q_when (et_eqI (ev_var rfl) ev_c) (fun hb H2 e2 => ?_) (fun hb H2 e2 => ?_)
  · have c : bitsOf m = 0 := of_decide_eq_true hb
    refine s_ret ev_c fun H3 e3 => ?_
    have e : nb n m = Str.ofString "" := by
      unfold nb nbL
      rw [c]
      rfl
    rw [e] at q
    exact q H3 ((e1.trans e2).trans e3)
  · have c : ¬ bitsOf m = 0 := of_decide_eq_false hb
    have hn2 : n.toNat < 2 ^ 1000 := Nat.lt_of_lt_of_le hlt (Nat.pow_le_pow_right (by decide) (by omega))
    refine q_asg (ev_bin (n := n.toNat) (ev_is (ev_var rfl) (by rw [← en])) hn2) fun H3 e3 => ?_
    refine s_ret (v := .str (nb n m)) (ev_bm (ev_var rfl) (fun _ _ => rfl) (ea_cons (ev_var rfl) ea_nil) fun H4 _ Q' q' => ⟨binS n.toNat, bitsOf m, rfl, rfl, ?_, ?_⟩) fun H4 e4 => q H4 (((e1.trans e2).trans e3).trans e4)
    · rw [ew]
      have : (bitsOf m).toNat ≤ 1000 := by omega
      exact pad_ok this
    · have z := zfill_is (n := n.toNat) (w := (bitsOf m).toNat) (by omega) hlt
      rw [← ew] at z
      rw [z]
      exact q' H4 (Ex.refl H4)
end
end Ver
namespace Ver
open PySem PySem.Spec PyProof.Rows L2 Evl
def MchP (C : Addr) (al : List Nat) (R : Tbl) : HV := fun H v => ∃ p, v = .ref p ∧ MchAt C H p al R
theorem ep_mk {σ : L2.St} {H : Hp} {C : Addr} {E : XK} {ta tv : TE} {al : List Nat} {R : Tbl} (h1 : Ev ta σ H (tx al)) (h2 : ∀ H1, Ex H H1 → EvP tv σ H1 (RulS R)) (A : Alf al) (ok : TblOk al.length R) : EvP (tMake C (spMi C) [] E (tCons ta (tCons tv tNil))) σ H (MchP C al R) := fun H1 e Q q =>
  h1 H1 e _ fun H2 e2 => h2 H2 (e.trans e2) H2 (Ex.refl H2) _ fun v H3 e3 hv x dx hx hdx ne => ⟨al, v, R, x, dx, H3, rfl, (Ex.new hdx).trans (Ex.new (by rw [upd_ne ne.symm]; exact hx)), hx, upd_same, hv, A, ok, fun H7 e7 hm => ⟨rfl, q (.ref x) H7 ((e2.trans e3).trans e7) ⟨x, rfl, hm⟩⟩⟩
/-- the words of the indices -/
def opts2 (n : Nat) : Int := if (2 : Int) > (n : Int) then 2 else (n : Int)
def iws (n : Nat) : List (List Nat) := (List.range n).map fun i => nbL i (bitsOf (opts2 n)).toNat
def plainR (n : Nat) : Tbl := [(iws n).map fun w => (0, w)]
theorem opts2_ok {n i : Nat} (h : n ≤ 6) (hi : i < n) : (0 : Int) ≤ (i : Int) ∧ (i : Int) < opts2 n ∧ opts2 n ≤ 6 := by
  unfold opts2
  split <;> omega
theorem iw_bit {n i : Nat} (h : n ≤ 6) (hi : i < n) : (∀ c ∈ nbL i (bitsOf (opts2 n)).toNat, c = 48 ∨ c = 49) ∧ (nbL i (bitsOf (opts2 n)).toNat).length ≤ 100 := by
  obtain ⟨h0, h1, h2⟩ := opts2_ok h hi
  have hb := bits_le (m := opts2 n) (b := 3) (by omega) (Int.le_trans h2 (by decide))
  have hlt := bits_lt h0 h1
  rw [Int.toNat_natCast] at hlt
  have ok := nb_ok hlt
  exact ⟨ok.digs, by rw [ok.len]; omega⟩
theorem plain_ok {n : Nat} (h : n ≤ 6) : TblOk n (plainR n) := by
  have hr : ∀ s k, s < (plainR n).length → k < n → rl (plainR n) s k = (0, nbL k (bitsOf (opts2 n)).toNat) := by
    intro s k hs hk
    have : s = 0 := by
      have : s < 1 := hs
      omega
    subst this
    show ((iws n).map fun w => ((0, w) : Rul)).getD k (0, []) = _
    rw [List.getD_eq_getElem?_getD, List.getElem?_map]
    unfold iws
    rw [List.getElem?_map, List.getElem?_range hk]
    rfl
  refine ⟨Nat.le_refl 1, by show 1 ≤ 60; decide, fun s r hs => ?_, fun s k hs hk => ?_, fun s k hs hk => ?_, fun s k hs hk => ?_⟩
  · have : s = 0 := by
      have : s < 1 := (List.getElem?_eq_some_iff.mp hs).1
      omega
    subst this
    have e : ((iws n).map fun w => ((0, w) : Rul)) = r := Option.some.inj hs
    rw [← e]
    unfold iws
    simp
  · rw [hr s k hs hk]
    show 0 < 1
    decide
  · rw [hr s k hs hk]
    exact (iw_bit h hk).1
  · rw [hr s k hs hk]
    exact (iw_bit h hk).2
theorem ep_lst1 {σ : L2.St} {H : Hp} {te : TE} {P : HV} (hm : ∀ {H H' : Hp} {v : V}, Ex H H' → P H v → P H' v) (h : EvP te σ H P) : EvP (tLst (tCons te tNil)) σ H (fun H v => ∃ r x, v = .ref r ∧ H r = some (.lst [x]) ∧ P H x) := fun H1 e Q q =>
  h H1 e _ fun v H2 e2 hv => ⟨by show 1 ≤ sizeLine; decide, fun p hp => q _ _ (e2.trans (Ex.new hp)) ⟨p, v, rfl, upd_same, hm (Ex.new hp) hv⟩⟩
section
variable {P : Program} {w : World} {K : PySem.W.Frag} {mg : Str → Option Value} {base : Heap} {C_Machine : Addr}
def spIw : Sp := fun vs H Q _ => ∃ n : Nat, vs = [.int (n : Int)] ∧ n ≤ 6 ∧ RetL ((iws n).map tx) H Q
theorem has_iw (F : At K mg "index_words" s_index_words) (T : Top K mg C_Machine) (h1 : Has P w K mg base "number_bits" s_number_bits ["number", "options"] 2 spNb) : Has P w K mg base "index_words" s_index_words ["many"] 3 spIw := by
  obtain ⟨f, fd, F, m⟩ := F.ex
  obtain ⟨f1, fd1, _, G_number_bits, b_number_bits, m_number_bits, k_number_bits⟩ := h1
  refine ⟨f, fd, F, F.ok S_index_words (fun vs H Q E h => ?_) (fun cdv A outer s H vs Q E hr h => ?_), F.binds fun _ _ _ _ _ _ us hl => match us, hl with | [_], _ => rfl, m, F.kp⟩
  · obtain ⟨n, rfl, _⟩ := h
    rfl
  obtain ⟨n, rfl, hn, q⟩ := h
  refine ⟨_, (pss_cons
    (ps_set (i := 1) S_index_words.nd rfl (Or.inr rfl) (pe_callB (call_max2 rfl) rfl T.z_max (by decide +kernel) (pa_cons (pv 0) (pa_cons pe_int pa_nil))))
    (pss_one
    (ps_ret (pe_lc (own := [("index", 2)]) (g := gName 2) (tt := tYes) rfl S_index_words.nd (pi_range1 rfl T.z_range (pa_cons (pv 0) pa_nil)) (blkOk_by (N := N_index_words) (sc := defScope s_index_words) (by decide +kernel)) (fun _ _ _ _ _ => pg_name (i := 2) S_index_words.nd rfl (Or.inl rfl)) (fun _ _ _ _ _ => pts_nil) (fun _ _ _ _ _ => (pe_call G_number_bits (hr.mono (by decide)) rfl m_number_bits k_number_bits b_number_bits .nil pass0 (pa_cons (pv 2) (pa_cons (pv 1) pa_nil)))))))), ?_⟩
  refine q_asg (v := .int (opts2 n)) (ev_max2 (ev_var rfl) ev_c) fun H1 e1 => ?_
  have g := el_lcR1 (σ := [some (.int (n : Int)), some (.int (opts2 n)), none]) (H := H1) (t := tYes) (te := tCall spNb [] E0 (tCons (tVar 2) (tCons (tVar 1) tNil))) (ta := tCons (tVar 0) tNil) (j := 2) (vs := [2]) (n := (n : Int)) (fun _ => true) (fun i => tx (nbL i (bitsOf (opts2 n)).toNat)) (ea_cons (ev_var rfl) ea_nil) (by omega) (fun x => rfl) (fun i H2 e2 hi => et_yes) (fun i H2 e2 hi _ => ev_call (ea_cons (ev_var rfl) (ea_cons (ev_var rfl) ea_nil)) (by
    obtain ⟨h0, h1, h2⟩ := opts2_ok hn (by omega : i < n)
    have := sv_nb (H := H2) h0 h1 (Int.le_trans h2 (by decide +kernel))
    unfold nb at this
    rw [Int.toNat_natCast] at this
    exact this))
  have eg : given ((n : Int)).toNat (fun _ => true) (fun i => tx (nbL i (bitsOf (opts2 n)).toNat)) = (iws n).map tx := by
    rw [Int.toNat_natCast]
    unfold iws
    rw [List.map_map]
    have : ∀ k, given k (fun _ => true) (fun i => tx (nbL i (bitsOf (opts2 n)).toNat)) = (List.range k).map (tx ∘ fun i => nbL i (bitsOf (opts2 n)).toNat) := by
      intro k
      induction k with
      | zero => rfl
      | succ k ih =>
        rw [given_yes rfl, ih, List.range_succ, List.map_append]
        rfl
    exact this n
  rw [eg] at g
  exact s_retL g fun p H2 hp e2 h2 => q p H2 (fresh_back e1 hp) (e1.trans e2) h2
/-! ### Machine.plain -/
def spPl (C : Addr) : Sp := fun vs H Q _ => ∃ al : List Nat, vs = [tx al] ∧ Alf al ∧ ∀ v H2, Ex H H2 → MchP C al (plainR al.length) H2 v → Q v H2
theorem has_pl (F : AtS K C_Machine "plain" "Machine.plain" s_Machine_plain) (T : Top K mg C_Machine) (h1 : HasI P w K mg base C_Machine ["self", "alphabet", "rules"] 6 (spMi C_Machine)) (h2 : Has P w K mg base "index_words" s_index_words ["many"] 3 spIw) : HasS P w K mg base C_Machine "plain" ["alphabet"] 8 (spPl C_Machine) := by
  obtain ⟨f, fd, F, M⟩ := F.ex
  obtain ⟨f1, fd1, G_Machine___init__, b_Machine___init__, mk_Machine⟩ := h1
  obtain ⟨f2, fd2, _, G_index_words, b_index_words, m_index_words, k_index_words⟩ := h2
  refine ⟨f, fd, F.ok S_Machine_plain (fun vs H Q E h => ?_) (fun cdv A outer s H vs Q E hr h => ?_), M, F.binds fun _ _ _ _ _ _ us hl => match us, hl with | [_], _ => rfl⟩
  · obtain ⟨al, rfl, _⟩ := h
    rfl
  obtain ⟨al, rfl, hA, q⟩ := h
  refine ⟨_, (pss_one
    (ps_ret (pe_make mk_Machine G_Machine___init__ (hr.mono (by decide)) rfl T.c_Machine b_Machine___init__ .nil pass0 (pa_cons (pv 0) (pa_cons (pe_lst (pa_cons (pe_lc (own := [("word", 1)]) (g := gName 1) (tt := tYes) rfl S_Machine_plain.nd (pi_list (pe_call G_index_words (hr.mono (by decide)) rfl m_index_words k_index_words b_index_words .nil pass0 (pa_cons (pe_callB call_len_str rfl T.z_len PySem.boot_len (pa_cons (pv 0) pa_nil)) pa_nil))) (blkOk_by (N := N_Machine_plain) (sc := defScope s_Machine_plain) (by decide +kernel)) (fun _ _ _ _ _ => pg_name (i := 1) S_Machine_plain.nd rfl (Or.inl rfl)) (fun _ _ _ _ _ => pts_nil) (fun _ _ _ _ _ => (pe_tup (pa_cons pe_int (pa_cons (pv 1) pa_nil))))) pa_nil)) pa_nil))))), ?_⟩
  have h6 := hA.six
  refine s_retP (ep_mk (R := plainR al.length) (ev_var rfl) (fun H1 e1 => ?_) hA (plain_ok h6)) q
  have g := ep_lcNL (K := K) (σ := [some (tx al), none]) (H := H1) (te := tTup (tCons (tC (.int 0)) (tCons (tVar 1) tNil))) (tl := tCall spIw [] E0 (tCons _ tNil)) (j := 1) (vs := [1]) pair_sol (xs := (iws al.length).map tx) (fun i => ((0, (iws al.length).getD i []) : Rul)) (el_call (ea_cons (ev_lenS (l := al) (by omega) (ev_var (i := 0) rfl)) ea_nil) fun H2 e2 Q' q' E' => ⟨al.length, rfl, h6, q'⟩) (by
    unfold iws
    rw [List.length_map, List.length_map, List.length_range]
    omega) (fun x => rfl) (fun i x H2 e2 hx => by
      rw [List.getElem?_map] at hx
      cases hh : (iws al.length)[i]? with
      | none => rw [hh] at hx; cases hx
      | some y =>
        rw [hh] at hx
        cases hx
        have e : (iws al.length).getD i [] = y := by rw [List.getD_eq_getElem?_getD, hh]; rfl
        rw [e]
        exact ep_pair (n := 0) ev_c (ev_var rfl))
  refine EvP.imp (ep_lst1 (P := LstP PairP ((List.range ((iws al.length).map tx).length).map fun i => ((0, (iws al.length).getD i []) : Rul))) (fun {H H' v} e h => ?_) g) fun v H2 e2 h => ?_
  · obtain ⟨r, ys, h1, h2, h3⟩ := h
    exact ⟨r, ys, h1, e _ _ h2, h3.mono pair_sol e⟩
  · obtain ⟨r, x, rfl, h1, r2, ys, rfl, h2, h3⟩ := h
    rw [map_at (iws al.length) [] (fun w => ((0, w) : Rul)) (by rw [List.length_map])] at h3
    refine ⟨r, _, rfl, .inl h1, rfl, fun i a q' => ?_⟩
    have : i = 0 := by
      have : i < 1 := (List.getElem?_eq_some_iff.mp q').1
      omega
    subst this
    cases q'
    refine ⟨_, rfl, ⟨r2, ys, rfl, .inl h2, h3.imp fun a v => PairP.s⟩, ?_⟩
    unfold iws
    simp only [List.length_map, List.length_range]
    omega
end
end Ver
namespace Ver
open PySem PySem.Spec PyProof.Rows L2 Evl
theorem q_call3L {σ : L2.St} {H : Hp} {D : Ends} {tz : TS} {sp : Sp} {dvs xs : List V} {x y : V} {E : XK} {ta tb tl : TE} {i : Nat} (h1 : Ev ta σ H x) (h2 : Ev tb σ H y) (hl : EvL tl σ H xs) (k : ∀ p H1, Ex H H1 → H1 p = some (.lst xs) → sp ([x, y, .ref p] ++ dvs) H1 (fun v H2 => tz D (σ.set i (some v)) H2) E) : tSeq (tAsg (tCall sp dvs E (tCons ta (tCons tb (tCons tl tNil)))) (gName i)) tz D σ H :=
  h1 H (Ex.refl H) _ fun H1 e1 => h2 H1 e1 _ fun H2 e2 => hl H2 (e1.trans e2) _ fun p H3 hp e3 g3 => k p H3 ((e1.trans e2).trans e3) g3
theorem q_sm {σ : L2.St} {H : Hp} {D : Ends} {tz : TS} {C : Addr} {sp : Sp} {E : XK} {t : TA} {vs : List V} {i : Nat} (h : EvA t σ H vs) (k : ∀ H1, Ex H H1 → sp vs H1 (fun v H2 => tz D (σ.set i (some v)) H2) E) : tSeq (tAsg (tSMeth C sp E (tC (.ref C)) t) (gName i)) tz D σ H :=
  ⟨rfl, h H (Ex.refl H) _ k⟩
theorem q_forLLs {K : PySem.W.Frag} {σ : L2.St} {H : Hp} {D : Ends} {tu tz : TS} {as : List (List V)} {tl : TE} {j : Nat} (h : EvLL tl σ H as) (S : L2.St → Prop) (h0 : S σ)
    (hs : ∀ a r σ' H' (N : L2.St → Hp → Prop), a ∈ as → S σ' → Ex H H' → H' r = some (.lst a) → (∀ σ2 H2, S σ2 → Ex H' H2 → N σ2 H2) → tu { D with nx := N, ct := N, bk := tz D } (σ'.set j (some (.ref r))) H')
    (hd : ∀ σ' H', S σ' → Ex H H' → tz D σ' H') : tSeq (tFor (iList K tl) (gName j) tu) tz D σ H :=
  h H (Ex.refl H) _ fun l ys H1 hl e1 g1 LL => ⟨l, rfl, ⟨ys, sq_of g1⟩, for_list (D := { D with nx := tz D }) (fun _ σ' H' => S σ' ∧ Ex H1 H') ⟨h0, Ex.refl H1⟩ (fun i σ' H' _ z => sq_of (z.2 _ _ g1)) (fun i x σ' H' hx z => by
    obtain ⟨a, r, ha, rfl, hr⟩ := LL.get hx
    exact hs a r σ' H' _ (List.mem_of_getElem? ha) z.1 (e1.trans z.2) (z.2 _ _ hr) fun σ2 H2 s2 e2 => ⟨s2, z.2.trans e2⟩) fun σ' H' z => hd σ' H' z.1 (e1.trans z.2)⟩
section
variable {P : Program} {w : World} {K : PySem.W.Frag} {mg : Str → Option Value} {base : Heap} {C_Machine : Addr} {C_PressError : Addr} {C_BadAlphabet : Addr} {C_BadLetter : Addr} {C_BadStanding : Addr} {C_BadRule : Addr} {C_AlphabetsDiffer : Addr}
/-! ### _law_letters_fit -/
def spLf (K : PySem.W.Frag) (C : Addr) : Sp := fun vs H Q _ => ∃ (al o c : List Nat) (ms a p p2 : Addr) (r : List Int) (R1 R2 : Tbl), vs = [tx al, .ref ms, tx o, tx c, .ref a] ∧ H ms = some (.lst [.ref p, .ref p2]) ∧ MchAt C H p al R1 ∧ MchAt C H p2 al R2 ∧ Alf al ∧ OkT al 400 o ∧ OkT al 400 c ∧ SqL K H a (r.map V.int) ∧ 7 ≤ r.length ∧ 0 ≤ at0 r 6 ∧ RetV (.bl true) H Q
theorem has_lf (F : At K mg "_law_letters_fit" s__law_letters_fit) (T : Top K mg C_Machine) (h1 : Has P w K mg base "_law_spoilt" s__law_spoilt ["alphabet", "text", "row"] 1 (spSpt K)) (h2 : Has P w K mg base "_law_told" s__law_told ["this", "that", "opening", "circle"] 7 (spTld C_Machine))
    (h3 : Has P w K mg base "_law_whole" s__law_whole ["value"] 1 spWhole) (h4 : Has P w K mg base "_law_other_alphabet" s__law_other_alphabet ["alphabet", "kind"] 1 spOa) (h5 : HasS P w K mg base C_Machine "plain" ["alphabet"] 8 (spPl C_Machine)) :
    Has P w K mg base "_law_letters_fit" s__law_letters_fit ["alphabet", "machines", "opening", "circle", "row"] 9 (spLf K C_Machine) := by
  obtain ⟨f, fd, F, m⟩ := F.ex
  obtain ⟨f1, fd1, _, G__law_spoilt, b__law_spoilt, m__law_spoilt, k__law_spoilt⟩ := h1
  obtain ⟨f2, fd2, _, G__law_told, b__law_told, m__law_told, k__law_told⟩ := h2
  obtain ⟨f3, fd3, _, G__law_whole, b__law_whole, m__law_whole, k__law_whole⟩ := h3
  obtain ⟨f4, fd4, _, G__law_other_alphabet, b__law_other_alphabet, m__law_other_alphabet, k__law_other_alphabet⟩ := h4
  obtain ⟨f5, fd5, G_Machine_plain, SM_Machine_plain, b_Machine_plain⟩ := h5
  refine ⟨f, fd, F, F.ok S__law_letters_fit (fun vs H Q E h => ?_) (fun cdv A outer s H vs Q E hr h => ?_), F.binds fun _ _ _ _ _ _ us hl => match us, hl with | [_, _, _, _, _], _ => rfl, m, F.kp⟩
  · obtain ⟨al, o, c, ms, a, p, p2, r, R1, R2, rfl, _⟩ := h
    rfl
  obtain ⟨al, o, c, ms, a, p, p2, r, R1, R2, rfl, hms, hM, hM2, A, ho, hc, hR, hr7, r6, q⟩ := h
  refine ⟨_, (pss_cons
    (ps_set (i := 5) S__law_letters_fit.nd rfl (Or.inl rfl) (pe_call G__law_spoilt (hr.mono (by decide)) rfl m__law_spoilt k__law_spoilt b__law_spoilt .nil pass0 (pa_cons (pv 0) (pa_cons (pe_slice sl_str (pv 2) po_none (po_some pe_int)) (pa_cons (pv 4) pa_nil)))))
    (pss_cons
    (ps_set (i := 6) S__law_letters_fit.nd rfl (Or.inl rfl) (pe_call G__law_spoilt (hr.mono (by decide)) rfl m__law_spoilt k__law_spoilt b__law_spoilt .nil pass0 (pa_cons (pv 0) (pa_cons (pe_slice sl_str (pv 3) po_none (po_some pe_int)) (pa_cons (pe_slice sl_list (pv 4) (po_some pe_int) po_none) pa_nil)))))
    (pss_cons
    (ps_for PassesOwn.never rfl (pi_list (pe_lst (pa_cons (pe_lst (pa_cons (pe_ix (r := rIxL K) ix_list (pv 5) pe_int (fun _ _ => rfl)) (pa_cons (pv 3) (pa_cons (pe_ix (r := rIxL K) ix_list (pv 5) pe_int (fun _ _ => rfl)) pa_nil)))) (pa_cons (pe_lst (pa_cons (pv 2) (pa_cons (pe_ix (r := rIxL K) ix_list (pv 6) pe_int (fun _ _ => rfl)) (pa_cons (pe_ix (r := rIxL K) ix_list (pv 6) pe_int (fun _ _ => rfl)) pa_nil)))) (pa_cons (pe_lst (pa_cons (pe_ix (r := rIxL K) ix_list (pv 5) pe_int (fun _ _ => rfl)) (pa_cons (pe_ix (r := rIxL K) ix_list (pv 6) pe_int (fun _ _ => rfl)) (pa_cons (pe_ix (r := rIxL K) ix_list (pv 5) pe_int (fun _ _ => rfl)) pa_nil)))) (pa_cons (pe_lst (pa_cons (pe_ix (r := rIxL K) ix_list (pv 5) pe_int (fun _ _ => rfl)) (pa_cons pe_str (pa_cons (pe_ix (r := rIxL K) ix_list (pv 5) pe_int (fun _ _ => rfl)) pa_nil)))) pa_nil)))))) (pg_name (i := 7) S__law_letters_fit.nd rfl (Or.inl rfl)) (pss_cons
    (ps_set (i := 8) S__law_letters_fit.nd rfl (Or.inl rfl) (pe_call G__law_told (hr.mono (by decide)) rfl m__law_told k__law_told b__law_told .nil pass0 (pa_cons (pe_ix (r := rIxL K) ix_list (pv 1) pe_int (fun _ _ => rfl)) (pa_cons (pe_ix (r := rIxL K) ix_list (pv 1) pe_int (fun _ _ => rfl)) (pa_cons (pe_ix (r := rIxL K) ix_list (pv 7) pe_int (fun _ _ => rfl)) (pa_cons (pe_ix (r := rIxL K) ix_list (pv 7) pe_int (fun _ _ => rfl)) pa_nil))))))
    (pss_one
    (ps_if (PW.pt (pw_or (pt_cmpR (op_neD hr.units) (pv 8) (pe_tup (pa_cons pe_str (pa_cons (pe_ix (r := rIxL K) ix_list (pv 7) pe_int (fun _ _ => rfl)) pa_nil))) (nomark _)) (pw_or1 (pt_not (pt_val (pe_call G__law_whole (hr.mono (by decide)) rfl m__law_whole k__law_whole b__law_whole .nil pass0 (pa_cons (pe_ix (r := rIxT K) ix_tup (pv 8) pe_int (fun _ _ => rfl)) pa_nil))))))) (pss_one
    (ps_ret pe_bl)) pss_nil))))
    (pss_cons
    (ps_set (i := 9) S__law_letters_fit.nd rfl (Or.inl rfl) (pe_call G__law_other_alphabet (hr.mono (by decide)) rfl m__law_other_alphabet k__law_other_alphabet b__law_other_alphabet .nil pass0 (pa_cons (pv 0) (pa_cons (pe_ix (r := rIxL K) ix_list (pv 4) pe_int (fun _ _ => rfl)) pa_nil))))
    (pss_cons
    (ps_set (i := 10) S__law_letters_fit.nd rfl (Or.inl rfl) (pe_smeth (pe_glob (v := .ref C_Machine) rfl T.c_Machine rfl) T.cr_Machine SM_Machine_plain G_Machine_plain (hr.mono (by decide)) b_Machine_plain pass0 (pa_cons (pv 9) pa_nil)))
    (pss_cons
    (ps_for PassesOwn.never rfl (pi_list (pe_lst (pa_cons (pe_lst (pa_cons (pe_ix (r := rIxL K) ix_list (pv 5) pe_int (fun _ _ => rfl)) (pa_cons (pe_ix (r := rIxL K) ix_list (pv 6) pe_int (fun _ _ => rfl)) pa_nil))) (pa_cons (pe_lst (pa_cons (pv 2) (pa_cons (pv 3) pa_nil))) (pa_cons (pe_lst (pa_cons (pv 9) (pa_cons (pv 9) pa_nil))) (pa_cons (pe_lst (pa_cons pe_str (pa_cons pe_str pa_nil))) pa_nil)))))) (pg_name (i := 7) S__law_letters_fit.nd rfl (Or.inl rfl)) (pss_cons
    (ps_if (pt_cmpR (op_neD hr.units) (pe_call G__law_told (hr.mono (by decide)) rfl m__law_told k__law_told b__law_told .nil pass0 (pa_cons (pe_ix (r := rIxL K) ix_list (pv 1) pe_int (fun _ _ => rfl)) (pa_cons (pv 10) (pa_cons (pe_ix (r := rIxL K) ix_list (pv 7) pe_int (fun _ _ => rfl)) (pa_cons (pe_ix (r := rIxL K) ix_list (pv 7) pe_int (fun _ _ => rfl)) pa_nil))))) (pe_tup (pa_cons pe_str (pa_cons (pv 0) (pa_cons (pv 9) pa_nil)))) (nomark _)) (pss_one
    (ps_ret pe_bl)) pss_nil)
    (pss_one
    (ps_if (pt_cmpR (op_neD hr.units) (pe_call G__law_told (hr.mono (by decide)) rfl m__law_told k__law_told b__law_told .nil pass0 (pa_cons (pv 10) (pa_cons (pe_ix (r := rIxL K) ix_list (pv 1) pe_int (fun _ _ => rfl)) (pa_cons (pe_ix (r := rIxL K) ix_list (pv 7) pe_int (fun _ _ => rfl)) (pa_cons (pe_ix (r := rIxL K) ix_list (pv 7) pe_int (fun _ _ => rfl)) pa_nil))))) (pe_tup (pa_cons pe_str (pa_cons (pv 9) (pa_cons (pv 0) pa_nil)))) (nomark _)) (pss_one
    (ps_ret pe_bl)) pss_nil))))
    (pss_one
    (ps_ret pe_bl)))))))), ?_⟩
  have zo := ho.2
  have zc := hc.2
  have h6 := A.six
  have cl : ∀ {v : List Nat}, v.length ≤ 400 → (cutL v none (some (398 : Int))).length ≤ 398 := fun {v} hv => by
    have : cutL v none (some ((398 : Nat) : Int)) = v.take 398 := cutL_to 398
    show (cutL v none (some ((398 : Nat) : Int))).length ≤ 398
    rw [this, List.length_take]
    omega
  refine q_callQ (dvs := []) (ea_cons (ev_var rfl) (ea_cons (ev_slS (by omega) (ev_var rfl) eo_none (eo_some (i := 398) ev_c)) (ea_cons (ev_var rfl) ea_nil))) fun H1 e1 => ⟨al, _, a, r, rfl, A, (ho.cut (hi := some 398)).1, cl zo, ex_l e1 hR, by omega, fun u1 k1 hb1 z1 p1 H2 _ e2 g2 => ?_⟩
  have e12 := e1.trans e2
  refine q_call3L (dvs := []) (ev_var rfl) (ev_slS (by omega) (ev_var rfl) eo_none (eo_some (i := 398) ev_c)) (el_from (n := 3) rfl (ev_var rfl) (ex_l e12 hR)) fun p3 H3 e3 g3 => ⟨al, _, p3, r.drop 3, rfl, A, (hc.cut (hi := some 398)).1, cl zc, sq_of g3, by rw [List.length_drop]; omega, fun u2 k2 hb2 z2 p4 H4 _ e4 g4 => ?_⟩
  have e24 := e3.trans e4
  have e14 := e12.trans e24
  have G2 := e24 _ _ g2
  have ms' : ∀ {H' : Hp}, Ex H4 H' → H' ms = some (.lst [.ref p, .ref p2]) := fun e => e _ _ (e14 _ _ hms)
  have b0 : ∀ {σ : L2.St} {H' : Hp}, Ex H4 H' → σ[5]? = some (some (.ref p1)) → Ev (tOp (rIxL K) (tVar 5) (tC (.int 0))) σ H' (tx u1) := fun e h => ev_op (ev_var h) ev_c (rv_ixL (sq_of (e _ _ G2)) (atI_nat (j := 0) rfl))
  have b1 : ∀ {σ : L2.St} {H' : Hp}, Ex H4 H' → σ[5]? = some (some (.ref p1)) → Ev (tOp (rIxL K) (tVar 5) (tC (.int 1))) σ H' (.int (k1 : Int)) := fun e h => ev_op (ev_var h) ev_c (rv_ixL (sq_of (e _ _ G2)) (atI_nat (j := 1) rfl))
  have w0 : ∀ {σ : L2.St} {H' : Hp}, Ex H4 H' → σ[6]? = some (some (.ref p4)) → Ev (tOp (rIxL K) (tVar 6) (tC (.int 0))) σ H' (tx u2) := fun e h => ev_op (ev_var h) ev_c (rv_ixL (sq_of (e _ _ g4)) (atI_nat (j := 0) rfl))
  have w1 : ∀ {σ : L2.St} {H' : Hp}, Ex H4 H' → σ[6]? = some (some (.ref p4)) → Ev (tOp (rIxL K) (tVar 6) (tC (.int 1))) σ H' (.int (k2 : Int)) := fun e h => ev_op (ev_var h) ev_c (rv_ixL (sq_of (e _ _ g4)) (atI_nat (j := 1) rfl))
  have m0 : ∀ {σ : L2.St} {H' : Hp}, Ex H4 H' → σ[1]? = some (some (.ref ms)) → Ev (tOp (rIxL K) (tVar 1) (tC (.int 0))) σ H' (.ref p) := fun e h => ev_op (ev_var h) ev_c (rv_ixL (sq_of (ms' e)) (atI_nat (j := 0) rfl))
  have m1 : ∀ {σ : L2.St} {H' : Hp}, Ex H4 H' → σ[1]? = some (some (.ref ms)) → Ev (tOp (rIxL K) (tVar 1) (tC (.int 1))) σ H' (.ref p2) := fun e h => ev_op (ev_var h) ev_c (rv_ixL (sq_of (ms' e)) (atI_nat (j := 1) rfl))
  have c7 : ∀ {σ : L2.St} {H0 H' : Hp} {r : Addr} {xs : List V} {i : Nat} {v : V}, H0 r = some (.lst xs) → Ex H0 H' → σ[7]? = some (some (.ref r)) → xs[i]? = some v → Ev (tOp (rIxL K) (tVar 7) (tC (.int (i : Int)))) σ H' v := fun g e h hx => ev_op (ev_var h) ev_c (rv_ixL (sq_of (e _ _ g)) (atI_nat hx))
  have mtv : ∀ {σ : L2.St} {H' : Hp}, Ev (tC (.str (Str.ofString ""))) σ H' (tx []) := ev_is ev_c (by rw [mt_is])
  refine q_forLLs (as := [[tx u1, tx c, .int (k1 : Int)], [tx o, tx u2, .int (k2 : Int)], [tx u1, tx u2, .int (k1 : Int)], [tx u1, tx [], .int (k1 : Int)]]) (ell_lst (ell_cons (el_lst (ea_cons (b0 (Ex.refl _) rfl) (ea_cons (ev_var rfl) (ea_cons (b1 (Ex.refl _) rfl) ea_nil))) (by show 3 ≤ 100000; decide)) (ell_cons (el_lst (ea_cons (ev_var rfl) (ea_cons (w0 (Ex.refl _) rfl) (ea_cons (w1 (Ex.refl _) rfl) ea_nil))) (by show 3 ≤ 100000; decide)) (ell_cons (el_lst (ea_cons (b0 (Ex.refl _) rfl) (ea_cons (w0 (Ex.refl _) rfl) (ea_cons (b1 (Ex.refl _) rfl) ea_nil))) (by show 3 ≤ 100000; decide)) (ell_cons (el_lst (ea_cons (b0 (Ex.refl _) rfl) (ea_cons mtv (ea_cons (b1 (Ex.refl _) rfl) ea_nil))) (by show 3 ≤ 100000; decide)) ell_nil)))) (by show 4 ≤ 1000; decide))
    (fun σ' => ∃ u7 u8 : Option V, σ' = [some (tx al), some (.ref ms), some (tx o), some (tx c), some (.ref a), some (.ref p1), some (.ref p4), u7, u8, none, none]) ⟨none, none, rfl⟩ ?_ ?_
  · rintro a0 r0 σ' H5 N ha ⟨u7, u8, rfl⟩ e5 g5 hN
    obtain ⟨vb, vc, k, rfl, zb, zc', t⟩ : ∃ (vb vc : List Nat) (k : Nat), a0 = [tx vb, tx vc, .int (k : Int)] ∧ vb.length ≤ 1000 ∧ vc.length ≤ 1000 ∧ (bad1 al vb k ∨ (∀ x ∈ vb, x ∈ al) ∧ bad1 al vc k) := by
      simp only [List.mem_cons, List.not_mem_nil, or_false] at ha
      rcases ha with rfl | rfl | rfl | rfl
      · exact ⟨u1, c, k1, rfl, by omega, by omega, .inl hb1⟩
      · exact ⟨o, u2, k2, rfl, by omega, by omega, .inr ⟨ho.1, hb2⟩⟩
      · exact ⟨u1, u2, k1, rfl, by omega, by omega, .inl hb1⟩
      · exact ⟨u1, [], k1, rfl, by omega, by show 0 ≤ 1000; decide, .inl hb1⟩
    have e15 := e14.trans e5
    refine q_asgU (xs := [.str ("letter" : Str), .int (k : Int)]) (eu_call (ea_cons (m0 e5 rfl) (ea_cons (m1 e5 rfl) (ea_cons (c7 (i := 0) g5 (Ex.refl _) rfl rfl) (ea_cons (c7 (i := 1) g5 (Ex.refl _) rfl rfl) ea_nil)))) (su_tld (hM.mono e15) (hM2.mono e15) zb zc' ?_)) fun pt H6 hpt e6 g6 => ?_
    · rcases t with t | ⟨t1, t2⟩
      · exact .inr (.inl ⟨rfl, k, t, rfl⟩)
      · exact .inr (.inr (.inl ⟨rfl, t1, k, t2, rfl⟩))
    · refine s_when (b := false) (et_is (et_or (et_test (ev_neVU (xs := [.str ("letter" : Str), .int (k : Int)]) (fla_cons (fl_str (by decide +kernel)) (fla_cons fl_int fla_nil)) (ev_var rfl) g6 (eu_tup (ea_cons ev_c (ea_cons (c7 (i := 2) g5 e6 rfl rfl) ea_nil)) (by show 2 ≤ 100000; decide)))) fun _ => et_not (et_B (ev_call (z := .bl true) (ea_cons (ev_op (ev_var rfl) ev_c (rv_ixT (st_of g6) (atI_nat (j := 1) rfl))) ea_nil) (fun H3 e3 Q' q' E' => ⟨(k : Int), rfl, q'⟩)))) rfl) (fun z => nomatch z) fun _ H7 e7 => hN _ _ ⟨_, _, rfl⟩ (e6.trans e7)
  · rintro σ' H5 ⟨u7, u8, rfl⟩ e5
    have e15 := e14.trans e5
    refine q_callQ (dvs := []) (ea_cons (ev_var rfl) (ea_cons (ev_atI (ex_l e15 hR) (i := 6) (by omega) rfl (ev_var rfl) ev_c) ea_nil)) fun H6 e6 => ⟨al, at0 r 6, rfl, A, r6, fun al2 A2 hne H7 e7 => ?_⟩
    refine q_sm (ea_cons (ev_var rfl) ea_nil) fun H8 e8 => ⟨al2, rfl, A2, fun v H9 e9 hv => ?_⟩
    obtain ⟨pf, rfl, hF⟩ := hv
    have e59 := ((e6.trans e7).trans e8).trans e9
    have e49 := e5.trans e59
    have h62 := A2.six
    refine q_forLLs (as := [[tx u1, tx u2], [tx o, tx c], [tx al2, tx al2], [tx [], tx []]]) (ell_lst (ell_cons (el_lst (ea_cons (b0 e49 rfl) (ea_cons (w0 e49 rfl) ea_nil)) (by show 2 ≤ 100000; decide)) (ell_cons (el_lst (ea_cons (ev_var rfl) (ea_cons (ev_var rfl) ea_nil)) (by show 2 ≤ 100000; decide)) (ell_cons (el_lst (ea_cons (ev_var rfl) (ea_cons (ev_var rfl) ea_nil)) (by show 2 ≤ 100000; decide)) (ell_cons (el_lst (ea_cons mtv (ea_cons mtv ea_nil)) (by show 2 ≤ 100000; decide)) ell_nil)))) (by show 4 ≤ 1000; decide))
      (fun σ' => ∃ u7 : Option V, σ' = [some (tx al), some (.ref ms), some (tx o), some (tx c), some (.ref a), some (.ref p1), some (.ref p4), u7, u8, some (tx al2), some (.ref pf)]) ⟨u7, rfl⟩ ?_ ?_
    · rintro a0 r0 σ' H10 N ha ⟨u7, rfl⟩ e10 g10 hN
      obtain ⟨vb, vc, rfl, zb, zc'⟩ : ∃ vb vc : List Nat, a0 = [tx vb, tx vc] ∧ vb.length ≤ 1000 ∧ vc.length ≤ 1000 := by
        simp only [List.mem_cons, List.not_mem_nil, or_false] at ha
        rcases ha with rfl | rfl | rfl | rfl
        · exact ⟨u1, u2, rfl, by omega, by omega⟩
        · exact ⟨o, c, rfl, by omega, by omega⟩
        · exact ⟨al2, al2, rfl, by omega, by omega⟩
        · exact ⟨[], [], rfl, by show 0 ≤ 1000; decide, by show 0 ≤ 1000; decide⟩
      have e410 := e49.trans e10
      have fl : ∀ {x y : List Nat}, Alf x → Alf y → FlA [.str ("differ" : Str), tx x, tx y] := fun hx hy => fla_cons (fl_str (by decide +kernel)) (fla_cons (fl_tx fun c h => hx.uni h) (fla_cons (fl_tx fun c h => hy.uni h) fla_nil))
      refine q_skip (et_test (ev_neUU (fl A A2) (eu_call (ea_cons (m0 e410 rfl) (ea_cons (ev_var rfl) (ea_cons (c7 (i := 0) g10 (Ex.refl _) rfl rfl) (ea_cons (c7 (i := 1) g10 (Ex.refl _) rfl rfl) ea_nil)))) (su_tld (hM.mono (e14.trans e410)) (hF.mono e10) zb zc' (.inl ⟨hne.symm, rfl⟩))) (eu_tup (ea_cons ev_c (ea_cons (ev_var rfl) (ea_cons (ev_var rfl) ea_nil))) (by show 3 ≤ 100000; decide)))) fun H11 e11 => ?_
      have e411 := e410.trans e11
      exact s_when (b := false) (et_test (ev_neUU (fl A2 A) (eu_call (ea_cons (ev_var rfl) (ea_cons (m0 e411 rfl) (ea_cons (c7 (i := 0) g10 e11 rfl rfl) (ea_cons (c7 (i := 1) g10 e11 rfl rfl) ea_nil)))) (su_tld (hF.mono (e10.trans e11)) (hM.mono (e14.trans e411)) zb zc' (.inl ⟨hne, rfl⟩))) (eu_tup (ea_cons ev_c (ea_cons (ev_var rfl) (ea_cons (ev_var rfl) ea_nil))) (by show 3 ≤ 100000; decide)))) (fun z => nomatch z) fun _ H12 e12 => hN _ _ ⟨_, rfl⟩ (e11.trans e12)
    · rintro σ' H10 ⟨u7, rfl⟩ e10
      exact s_ret ev_c fun H11 e11 => q H11 ((e14.trans (e49.trans e10)).trans e11)
end
end Ver
namespace Ver
open PySem PySem.Spec PyProof.Rows L2 Evl
theorem rep_add (n m : Nat) (w : List Nat) : rep (n + m) w = rep n w ++ rep m w := by
  unfold rep
  rw [← List.replicate_append_replicate, List.flatten_append]
theorem rep_cons (n l : Nat) : rep (n + 1) [l] = l :: rep n [l] := by
  rw [Nat.add_comm, rep_add]
  rfl
theorem rl_slow {n m t s k : Nat} (hs : s < m) (hk : k < n) : rl (slowR n m t) s k = slowF m t s k := by
  unfold rl slowR
  rw [List.getD_eq_getElem?_getD (l := (List.range m).map _), List.getElem?_map, List.getElem?_range hs]
  show ((List.range n).map (slowF m t s)).getD k (0, []) = _
  rw [List.getD_eq_getElem?_getD, List.getElem?_map, List.getElem?_range hk]
  rfl
theorem slow_len {n m t : Nat} : (slowR n m t).length = m := by
  unfold slowR
  rw [List.length_map, List.length_range]
theorem slow_one {m t i k : Nat} : (slowF m t i k).2.length ≤ 1 := by
  unfold slowF
  split <;> simp
theorem slow_rg {n m t : Nat} (hm : 1 ≤ m) : RG n m (slowR n m t) := by
  have key : ∀ r ∈ slowR n m t, ∃ i, r = (List.range n).map (slowF m t i) := fun r hr => by
    unfold slowR at hr
    obtain ⟨i, _, rfl⟩ := List.mem_map.mp hr
    exact ⟨i, rfl⟩
  refine ⟨fun r hr => ?_, fun r hr a ha => ?_, fun r hr a ha => ?_, fun r hr a ha => ?_⟩ <;> obtain ⟨i, rfl⟩ := key r hr
  · rw [List.length_map, List.length_range]
  all_goals obtain ⟨k, _, rfl⟩ := List.mem_map.mp ha
  · exact Nat.mod_lt _ hm
  · unfold slowF
    split
    · intro c hc
      rw [List.mem_singleton.mp hc]
      exact .inr rfl
    · intro c hc
      cases hc
  · have := slow_one (m := m) (t := t) (i := i) (k := k)
    omega
theorem slow_le {al : List Nat} {m t : Nat} : ∀ (v : List Nat) (s : Nat), s < m → (∀ c ∈ v, c ∈ al) → (out (slowR al.length m t) al s v).length ≤ v.length
  | [], _, _, _ => Nat.le_refl _
  | c :: v, s, hs, hv => by
    have hk := (ixf_at (hv c (List.mem_cons_self ..))).2
    have e := rl_slow (t := t) hs hk
    have h2 := slow_le (t := t) v (nxt (slowR al.length m t) al s c) (by unfold nxt; rw [e]; exact Nat.mod_lt _ (by omega)) fun d hd => hv d (List.mem_cons_of_mem _ hd)
    show (wrt (slowR al.length m t) al s c ++ out _ al _ v).length ≤ _
    have h1 : (wrt (slowR al.length m t) al s c).length ≤ 1 := by
      unfold wrt
      rw [e]
      exact slow_one
    rw [List.length_append, List.length_cons]
    omega
theorem slow_lt {al : List Nat} {m t l s n : Nat} (hs : s < m) (hl : l ∈ al) (hn : 1 ≤ n) (e : fin (slowR al.length m t) al s (rep n [l]) = s) : (out (slowR al.length m t) al s (rep n [l])).length < n := by
  have hk := (ixf_at hl).2
  have e1 := rl_slow (t := t) hs hk
  have en : nxt (slowR al.length m t) al s l = (s + 1) % m := by
    unfold nxt
    rw [e1]
    rfl
  have hs1 : (s + 1) % m < m := Nat.mod_lt _ (by omega)
  have al1 : ∀ k, ∀ c ∈ rep k [l], c ∈ al := rep_in fun c hc => by rw [List.mem_singleton.mp hc]; exact hl
  obtain ⟨k, rfl⟩ : ∃ k, n = k + 1 := ⟨n - 1, by omega⟩
  rw [rep_cons] at e ⊢
  have e : fin (slowR al.length m t) al (nxt (slowR al.length m t) al s l) (rep k [l]) = s := e
  show (wrt (slowR al.length m t) al s l ++ out (slowR al.length m t) al (nxt (slowR al.length m t) al s l) (rep k [l])).length < _
  rw [List.length_append]
  rw [en] at e ⊢
  have h2 := slow_le (al := al) (t := t) (rep k [l]) _ hs1 (al1 k)
  rw [rep_lenW] at h2
  have h2 : (out (slowR al.length m t) al ((s + 1) % m) (rep k [l])).length ≤ k := by simpa using h2
  by_cases c : (1 < m ∧ s = t) ∧ ixf al l ≠ 1
  · have ns : (s + 1) % m ≠ s := by
      by_cases z : s + 1 < m
      · rw [Nat.mod_eq_of_lt z]
        omega
      · rw [show s + 1 = m by omega, Nat.mod_self]
        omega
    have w1 : (wrt (slowR al.length m t) al s l).length ≤ 1 := by
      unfold wrt
      rw [e1]
      exact slow_one
    match k, e, h2 with
    | 0, e, _ => exact absurd e ns
    | k + 1, e, _ =>
      have e2 := rl_slow (t := t) hs1 hk
      rw [rep_cons]
      show _ + (wrt (slowR al.length m t) al ((s + 1) % m) l ++ out (slowR al.length m t) al (nxt (slowR al.length m t) al ((s + 1) % m) l) (rep k [l])).length < _
      have w2 : wrt (slowR al.length m t) al ((s + 1) % m) l = [] := by
        unfold wrt
        rw [e2]
        exact if_neg fun z => ns (by rw [z.1.2, c.1.2])
      have h3 := slow_le (al := al) (t := t) (rep k [l]) (nxt (slowR al.length m t) al ((s + 1) % m) l) (by unfold nxt; rw [e2]; exact Nat.mod_lt _ (by omega)) (al1 k)
      rw [rep_lenW] at h3
      have h3 : (out (slowR al.length m t) al (nxt (slowR al.length m t) al ((s + 1) % m) l) (rep k [l])).length ≤ k := by simpa using h3
      rw [w2, List.nil_append]
      omega
  · have w0 : wrt (slowR al.length m t) al s l = [] := by
      unfold wrt
      rw [e1]
      exact if_neg c
    rw [w0, List.length_nil]
    omega
theorem quick_ge {al : List Nat} {R : Tbl} (ok : TblOk al.length R) (hrow : ∀ r ∈ R, r.length = al.length) (hne : ∀ q ∈ R, ∀ x ∈ q, 1 ≤ x.2.length) : ∀ (v : List Nat) (s : Nat), s < R.length → (∀ c ∈ v, c ∈ al) → v.length ≤ (out R al s v).length
  | [], _, _, _ => Nat.zero_le _
  | c :: v, s, hs, hv => by
    have hc := hv c (List.mem_cons_self ..)
    have hk := (ixf_at hc).2
    obtain ⟨h1, h2⟩ := rl_mem hrow hs hk
    have h3 := quick_ge ok hrow hne v _ (nxt_lt ok hs hc) fun d hd => hv d (List.mem_cons_of_mem _ hd)
    have h4 : 1 ≤ (wrt R al s c).length := hne _ h1 _ h2
    show _ ≤ (wrt R al s c ++ out R al (nxt R al s c) v).length
    rw [List.length_append, List.length_cons]
    omega
theorem fin_rep {R : Tbl} {al o w : List Nat} {i n : Nat} : fin R al (fin R al 0 (o ++ rep i w)) (rep n w) = pr1 R al o w (i + n) := by
  unfold pr1
  rw [rep_add, ← List.append_assoc, fin_app R al (o ++ rep i w)]
theorem lead_round {al o : List Nat} {l m2 t i n : Nat} {R1 : Tbl} (o1 : TblOk al.length R1) (hrow : ∀ r ∈ R1, r.length = al.length) (hne : ∀ q ∈ R1, ∀ x ∈ q, 1 ≤ x.2.length) (hl : l ∈ al) (ho : ∀ z ∈ o, z ∈ al) (hm : 1 ≤ m2) (hn : 1 ≤ n)
    (e1 : pr1 R1 al o [l] i = pr1 R1 al o [l] (i + n)) (e2 : pr1 (slowR al.length m2 t) al o [l] i = pr1 (slowR al.length m2 t) al o [l] (i + n)) (o2 : TblOk al.length (slowR al.length m2 t)) : lead R1 (slowR al.length m2 t) al (o ++ rep i [l]) (rep n [l]) = true := by
  have l1 : ∀ k, ∀ c ∈ rep k [l], c ∈ al := rep_in fun c hc => by rw [List.mem_singleton.mp hc]; exact hl
  have ob : ∀ c ∈ o ++ rep i [l], c ∈ al := fun c hc => (List.mem_append.mp hc).elim (ho c) (l1 i c)
  have f1 : fin R1 al (fin R1 al 0 (o ++ rep i [l])) (rep n [l]) = fin R1 al 0 (o ++ rep i [l]) := by
    rw [fin_rep]
    exact e1.symm
  have f2 : fin (slowR al.length m2 t) al (fin (slowR al.length m2 t) al 0 (o ++ rep i [l])) (rep n [l]) = fin (slowR al.length m2 t) al 0 (o ++ rep i [l]) := by
    rw [fin_rep]
    exact e2.symm
  have s1 := fin_lt o1 (o ++ rep i [l]) 0 o1.pos ob
  have s2 := fin_lt o2 (o ++ rep i [l]) 0 o2.pos ob
  have g1 := quick_ge o1 hrow hne (rep n [l]) _ s1 (l1 n)
  have g2 := slow_lt (t := t) (by rw [slow_len] at s2; exact s2) hl hn f2
  rw [rep_lenW] at g1
  have g1 : n ≤ (out R1 al (fin R1 al 0 (o ++ rep i [l])) (rep n [l])).length := by simpa using g1
  unfold lead
  rw [decide_eq_true f1, decide_eq_true f2, decide_eq_true (show _ < _ from Nat.lt_of_lt_of_le g2 g1)]
  rfl
end Ver
namespace Ver
open PySem PySem.Spec PyProof.Rows L2 Evl
section
variable {P : Program} {w : World} {K : PySem.W.Frag} {mg : Str → Option Value} {base : Heap} {C_Machine : Addr}
theorem has_width (F : At K mg "width" s_width) : Has P w K mg base "width" s_width ["options"] 1 spWidth := by
  obtain ⟨f, fd, F, m⟩ := F.ex
  refine ⟨f, fd, F, F.ok S_width (fun vs H Q E h => ?_) (fun cdv A outer s H vs Q E hr h => ?_), F.binds fun _ _ _ _ _ _ us hl => match us, hl with | [_], _ => rfl, m, F.kp⟩
  · obtain ⟨n, rfl, _⟩ := h
    rfl
  obtain ⟨n, rfl, q⟩ := h
  refine ⟨_, (pss_one
    (ps_ret (pe_bits (pe_op op_sub (pv 0) pe_int)))), ?_⟩
  refine ⟨_, rfl, _, _, rfl, rfl, _, rfl, ?_⟩
  exact q H (Ex.refl H)
theorem kb_width {f : Addr} {fd : FuncData} (F : Fun K "width" "width" s_width f fd) : KBn K fd ["options"] 0 ["options"] (fun _ ws => ws) (fun _ ws => ws) := by
  obtain ⟨oc, od, kV, doc, pm, an, cdv, ct, osl, rfl, lk, hcd⟩ := F.ex
  refine ⟨fun s us ws X l1 l2 => ?_, fun r1 r2 => r2⟩
  match us, ws, l1, l2 with
  | [], [v], _, _ => exact .of_eq rfl
end
end Ver
namespace Ver
open PySem PySem.Spec PyProof.Rows L2 Evl
theorem FnOk.calm {P : Program} {w : World} {K : PySem.W.Frag} {mg : Str → Option Value} {base : Heap} {k : Nat} {f : Addr} {fd : FuncData} {ps : List Str} {sp : Sp} (F : FnOk P w K mg base (L2.CX P w) k f fd ps sp) : FnOk P w K mg base CX0 k f fd ps (fun vs H Q _ => sp vs H Q E0) :=
  ⟨fun vs H Q _ h => F.len vs H Q E0 h, fun A outer s H args us vs Q E hr he hb hv hs => codeAny_mono (F.run A outer s H args us vs Q E0 hr he hb hv hs) fun r s' h => by
    cases r with
    | ok o => cases o <;> exact h
    | error e =>
      obtain ⟨_, _, _, _, _, _, _, _, _, _, _, _, hE⟩ := h
      exact hE.elim⟩
theorem vals_rev2 : ∀ {zs : List V} {ws : List Value}, Vals zs ws → Vals zs.reverse ws.reverse
  | _, _, .nil => .nil
  | _, _, .cons h t => by
    rw [List.reverse_cons, List.reverse_cons]
    exact Vals.append (vals_rev2 t) (.cons h .nil)
theorem kb_ll {K : PySem.W.Frag} {f : Addr} {fd : FuncData} (F : Fun K "is_lead_loop" "is_lead_loop" s_is_lead_loop f fd) : KBn K fd ["one", "two", "begin", "loop"] 0 ["loop", "begin", "two", "one"] (fun _ ws => ws.reverse) (fun _ ws => ws.reverse) := by
  obtain ⟨oc, od, kV, doc, pm, an, cdv, ct, osl, rfl, lk, hcd⟩ := F.ex
  refine ⟨fun s us ws X l1 l2 => ?_, fun r1 r2 => vals_rev2 r2⟩
  match us, ws, l1, l2 with
  | [], [v, u, x, y], _, _ => exact .of_eq rfl
def SZ2 : List Int := [12, 6, 19, 19, 2, 2, 2, 19] ++ List.replicate 62 60
def SZ3 : List Int := [8, 400, 40, 4, 400, 90, 90, 400, 90, 90, 108, 12, 12, 12] ++ List.replicate 40 60
theorem sz2_len : SZ2.length = 70 := by decide +kernel
theorem sz3_len : SZ3.length = 54 := by decide +kernel
theorem sz2_pos : ∀ i, i < 70 → 0 < at0 SZ2 i ∧ at0 SZ2 i ≤ 1000 := by decide +kernel
theorem sz3_pos : ∀ i, i < 54 → 0 < at0 SZ3 i ∧ at0 SZ3 i ≤ 1000 := by decide +kernel
theorem dg_digits {c : Int} {ss : List Int} {n : Nat} (hn : ss.length = n) (h : ∀ i, i < n → 0 < at0 ss i ∧ at0 ss i ≤ 1000) : Dg (digits c ss) := fun i hi => by
  rw [digits_len, hn] at hi
  have h1 := h i hi
  have h2 := digits_at (c := c) (ss := ss) (i := i) (by omega) h1.1
  omega
structure Row55 (r : List Int) : Prop where
  len : r.length = 54
  dg : Dg r
  r0 : ∃ n : Nat, n < 8 ∧ at0 r 0 = (n : Int)
  r1 : ∃ n : Nat, n < 400 ∧ at0 r 1 = (n : Int)
  r2 : ∃ n : Nat, n < 40 ∧ at0 r 2 = (n : Int)
  r3 : ∃ n : Nat, n < 4 ∧ at0 r 3 = (n : Int)
  r11 : ∃ n : Nat, n < 12 ∧ at0 r 11 = (n : Int)
  r12 : ∃ n : Nat, n < 12 ∧ at0 r 12 = (n : Int)
theorem row55 (c : Int) : Row55 (digits c SZ3) := by
  have h : ∀ (i m : Nat), i < 54 → at0 SZ3 i = (m : Int) → ∃ n : Nat, n < m ∧ at0 (digits c SZ3) i = (n : Int) := fun i m hi hm => by
    have h1 := digits_at (c := c) (ss := SZ3) (i := i) (by rw [sz3_len]; exact hi) (sz3_pos i hi).1
    exact ⟨(at0 (digits c SZ3) i).toNat, by omega, by omega⟩
  exact ⟨by rw [digits_len, sz3_len], dg_digits sz3_len sz3_pos, h 0 8 (by decide) (by decide +kernel), h 1 400 (by decide) (by decide +kernel), h 2 40 (by decide) (by decide +kernel), h 3 4 (by decide) (by decide +kernel), h 11 12 (by decide) (by decide +kernel), h 12 12 (by decide) (by decide +kernel)⟩
theorem Dg.app2 {r s : List Int} (h : Dg r) (g : Dg s) : Dg (r ++ s) := fun i hi => by
  by_cases c : i < r.length
  · have e : at0 (r ++ s) i = at0 r i := by
      unfold at0
      rw [List.getD_eq_getElem?_getD, List.getElem?_append_left c, ← List.getD_eq_getElem?_getD]
    rw [e]
    exact h.at _
  · have e : at0 (r ++ s) i = at0 s (i - r.length) := by
      unfold at0
      rw [List.getD_eq_getElem?_getD, List.getElem?_append_right (by omega), ← List.getD_eq_getElem?_getD]
    rw [e]
    exact g.at _
section
variable {σ : L2.St} {H : Hp} {te tl ta tb t1 t2 t3 t4 t5 : TE} {tu tz : TS} {D : Ends} {sp : Sp} {dvs xs : List V} {E : XK} {x1 x2 x3 x4 z : V} {Q : VK}
theorem el_is {ys : List V} (h : EvL te σ H xs) (e : xs = ys) : EvL te σ H ys := by
  rw [← e]
  exact h
theorem run_call1L (hl : EvL tl σ H xs) (k : ∀ p H1, Ex H H1 → H1 p = some (.lst xs) → sp ([.ref p] ++ dvs) H1 Q E) : tCall sp dvs E (tCons tl tNil) σ H Q := hl H (Ex.refl H) _ fun p H1 _ e h1 => k p H1 e h1
theorem run_call2E (h1 : Ev t1 σ H x1) (hl : EvL tl σ H xs) (k : ∀ p H1, Ex H H1 → H1 p = some (.lst xs) → sp ([x1, .ref p] ++ dvs) H1 Q E) : tCall sp dvs E (tCons t1 (tCons tl tNil)) σ H Q :=
  h1 H (Ex.refl H) _ fun H1 e1 => hl H1 e1 _ fun p H2 _ e2 g2 => k p H2 (e1.trans e2) g2
theorem run_call3M (h1 : Ev t1 σ H x1) (hl : EvL tl σ H xs) (h3 : ∀ H1, Ex H H1 → Ev t3 σ H1 x3) (k : ∀ p H1, Ex H H1 → H1 p = some (.lst xs) → sp ([x1, .ref p, x3] ++ dvs) H1 Q E) : tCall sp dvs E (tCons t1 (tCons tl (tCons t3 tNil))) σ H Q :=
  h1 H (Ex.refl H) _ fun H1 e1 => hl H1 e1 _ fun p H2 _ e2 g2 => h3 H2 (e1.trans e2) H2 (Ex.refl H2) _ fun H3 e3 => k p H3 ((e1.trans e2).trans e3) (e3 _ _ g2)
theorem ep_v {x : V} {P : HV} (h : Ev te σ H x) (hp : ∀ H1, Ex H H1 → P H1 x) : EvP te σ H P := fun H1 e Q q => h H1 e _ fun H2 e2 => q x H2 e2 (hp H2 (e.trans e2))
theorem ev_call5P {P : HV} (h1 : Ev t1 σ H x1) (h2 : Ev t2 σ H x2) (h3 : Ev t3 σ H x3) (h4 : Ev t4 σ H x4) (h5 : EvP t5 σ H P) (k : ∀ v H1, Ex H H1 → P H1 v → SpV sp ([x1, x2, x3, x4, v] ++ []) H1 z) : Ev (tCall sp [] E (tCons t1 (tCons t2 (tCons t3 (tCons t4 (tCons t5 tNil)))))) σ H z := fun H1 e Q q =>
  h1 H1 e _ fun H2 e2 => h2 H2 (e.trans e2) _ fun H3 e3 => h3 H3 ((e.trans e2).trans e3) _ fun H4 e4 => h4 H4 (((e.trans e2).trans e3).trans e4) _ fun H5 e5 => h5 H5 ((((e.trans e2).trans e3).trans e4).trans e5) _ fun v H6 e6 hv =>
    k v H6 (((((e.trans e2).trans e3).trans e4).trans e5).trans e6) hv H6 (Ex.refl H6) Q (fun H7 e7 => q H7 (((((e2.trans e3).trans e4).trans e5).trans e6).trans e7)) E
theorem q_asgLst2P {P1 P2 : HV} {i : Nat} (m1 : Mo P1) (m2 : Mo P2) (h1 : EvP t1 σ H P1) (h2 : ∀ H1, Ex H H1 → EvP t2 σ H1 P2) (k : ∀ p x y H1, Ex H H1 → H1 p = some (.lst [x, y]) → P1 H1 x → P2 H1 y → tz D (σ.set i (some (.ref p))) H1) : tSeq (tAsg (tLst (tCons t1 (tCons t2 tNil))) (gName i)) tz D σ H :=
  s_retLst2P (D := { D with rt := fun v H1 => tz D (σ.set i (some v)) H1 }) m1 m2 h1 h2 fun p x y H1 _ e g a b => k p x y H1 e g a b
end
theorem at_st {tz : TS} {D : Ends} {σ σ' : L2.St} {H : Hp} (e : σ = σ') (h : tz D σ' H) : tz D σ H := by
  rw [e]
  exact h
theorem mchp_mo {C : Addr} {al : List Nat} {R : Tbl} : Mo (MchP C al R) := fun _ _ _ e h => by
  obtain ⟨p, h1, h2⟩ := h
  exact ⟨p, h1, h2.mono e⟩
def CsP (al : List Nat) : HV := fun H v => ∃ p ys, v = .ref p ∧ H p = some (.lst ys) ∧ CsAt al 400 H ys
def LiP (r : List Int) : HV := fun H v => ∃ p, v = .ref p ∧ H p = some (.lst (r.map V.int))
theorem ep_cs {σ : L2.St} {H : Hp} {te : TE} {al : List Nat} {as : List (List V)} (h : EvLL te σ H as) (g : ∀ a ∈ as, ∃ b c, a = [tx b, tx c] ∧ OkT al 400 b ∧ OkT al 400 c) : EvP te σ H (CsP al) := fun H1 e Q q => h H1 e _ fun l ys H2 _ e2 g2 LL => q _ H2 e2 ⟨l, ys, rfl, g2, LLs.cs LL g⟩
theorem ep_ac {σ : L2.St} {H : Hp} {E : XK} {ta : TA} {al o u l : List Nat} {R1 R2 : Tbl} {x y : V} (h : EvA ta σ H [tx al, x, y, tx o, tx u, tx l]) (rc : Rc al R1 R2) (hx : TabP R1 H x) (hy : TabP R2 H y) (ho : OkT al 400 o) (hu : OkT al 4 u) (hl : OkT al 1 l) : EvP (tCall spAc [] E ta) σ H (CsP al) := fun H1 e Q q =>
  h H1 e _ fun H2 e2 => ⟨al, o, u, l, R1, R2, x, y, rfl, rc, tab_sol.mono (e.trans e2) hx, tab_sol.mono (e.trans e2) hy, ho, hu, hl, fun p ys H3 _ e3 g3 _ hC => q _ H3 (e2.trans e3) ⟨p, ys, rfl, g3, hC⟩⟩
section
variable {P : Program} {w : World} {K : PySem.W.Frag} {mg : Str → Option Value} {base : Heap} {C_Machine : Addr} {C_PressError : Addr} {C_BadAlphabet : Addr} {C_BadLetter : Addr} {C_BadStanding : Addr} {C_BadRule : Addr} {C_AlphabetsDiffer : Addr}
def spLaw (K : PySem.W.Frag) : Sp := fun vs H Q _ => ∃ (a : Addr) (ns : List Int), vs = [.ref a] ∧ SqL K H a (ns.map V.int) ∧ ns.length ≤ 63 ∧ ∀ H', Q (.bl true) H'
theorem ok_law {f : Addr} {fd : FuncData} (F : Fun K "law" "law" s_law f fd) (T : Top K mg C_Machine) (h1 : Has P w K mg base "_law_alphabet" s__law_alphabet ["row"] 1 (spSigns K)) (h2 : Has P w K mg base "_law_digits" s__law_digits ["cell", "sizes"] 1 (spDigits K)) (h3 : Has P w K mg base "_law_cell" s__law_cell ["script", "k"] 1 (spCell K))
    (h4 : Has P w K mg base "_law_two_rules" s__law_two_rules ["size", "row"] 5 (spTwo K)) (h5 : HasI P w K mg base C_Machine ["self", "alphabet", "rules"] 6 (spMi C_Machine)) (h6 : Has P w K mg base "_law_all_cases" s__law_all_cases ["alphabet", "this", "that", "opening", "word", "letter"] 3 spAc) (h7 : Has P w K mg base "_law_fits" s__law_fits ["alphabet", "machines", "this", "that", "cases"] 8 (spFit C_Machine))
    (h8 : Has P w K mg base "_law_ring_rules" s__law_ring_rules ["size", "row", "many"] 2 (spRing K)) (h9 : Has P w K mg base "_law_slow_rules" s__law_slow_rules ["size", "many", "at"] 1 spSlow) (h10 : Has P w K mg base "_law_loop" s__law_loop ["alphabet", "this", "that", "opening", "word", "which"] 2 spLp) (h11 : Has P w K mg base "_law_told" s__law_told ["this", "that", "opening", "circle"] 7 (spTld C_Machine))
    (h12 : Has P w K mg base "_law_letters_fit" s__law_letters_fit ["alphabet", "machines", "opening", "circle", "row"] 9 (spLf K C_Machine)) (h13 : HasX P w K mg base "is_lead_loop" s_is_lead_loop ["one", "two", "begin", "loop"] 6 (spLl C_Machine C_BadLetter C_AlphabetsDiffer)) :
    FnOk P w K mg base CX0 10 f fd ["script"] (spLaw K) := by
  obtain ⟨f1, fd1, _, G__law_alphabet, b__law_alphabet, m__law_alphabet, k__law_alphabet⟩ := h1
  obtain ⟨f2, fd2, _, G__law_digits, b__law_digits, m__law_digits, k__law_digits⟩ := h2
  obtain ⟨f3, fd3, _, G__law_cell, b__law_cell, m__law_cell, k__law_cell⟩ := h3
  obtain ⟨f4, fd4, _, G__law_two_rules, b__law_two_rules, m__law_two_rules, k__law_two_rules⟩ := h4
  obtain ⟨f5, fd5, G_Machine___init__, b_Machine___init__, mk_Machine⟩ := h5
  obtain ⟨f6, fd6, _, G__law_all_cases, b__law_all_cases, m__law_all_cases, k__law_all_cases⟩ := h6
  obtain ⟨f7, fd7, _, G__law_fits, b__law_fits, m__law_fits, k__law_fits⟩ := h7
  obtain ⟨f8, fd8, _, G__law_ring_rules, b__law_ring_rules, m__law_ring_rules, k__law_ring_rules⟩ := h8
  obtain ⟨f9, fd9, _, G__law_slow_rules, b__law_slow_rules, m__law_slow_rules, k__law_slow_rules⟩ := h9
  obtain ⟨f10, fd10, _, G__law_loop, b__law_loop, m__law_loop, k__law_loop⟩ := h10
  obtain ⟨f11, fd11, _, G__law_told, b__law_told, m__law_told, k__law_told⟩ := h11
  obtain ⟨f12, fd12, _, G__law_letters_fit, b__law_letters_fit, m__law_letters_fit, k__law_letters_fit⟩ := h12
  obtain ⟨f13, fd13, F13, GX_is_lead_loop, _, m_is_lead_loop, k_is_lead_loop⟩ := h13
  have G_is_lead_loop := FnOk.calm GX_is_lead_loop
  have kb_is_lead_loop := kb_ll F13
  refine F.ok S_law (fun vs H Q E h => ?_) (fun cdv A outer s H vs Q E hr h => ?_)
  · obtain ⟨a, ns, rfl, _⟩ := h
    rfl
  obtain ⟨a, ns, rfl, hS, h63, q⟩ := h
  refine ⟨_, (pss_cons
    (ps_set (i := 1) S_law.nd rfl (Or.inr rfl) (pe_call G__law_alphabet (hr.mono (by decide)) rfl m__law_alphabet k__law_alphabet b__law_alphabet .nil pass0 (pa_cons (pe_call G__law_digits (hr.mono (by decide)) rfl m__law_digits k__law_digits b__law_digits .nil pass0 (pa_cons (pe_call G__law_cell (hr.mono (by decide)) rfl m__law_cell k__law_cell b__law_cell .nil pass0 (pa_cons (pv 0) (pa_cons pe_int pa_nil))) (pa_cons (pe_lst (pa_cons pe_int (pa_cons pe_int (pa_cons pe_int (pa_cons pe_int (pa_cons pe_int (pa_cons pe_int (pa_cons pe_int pa_nil)))))))) pa_nil))) pa_nil)))
    (pss_cons
    (ps_set (i := 2) S_law.nd rfl (Or.inr rfl) (pe_callB call_len_str rfl T.z_len PySem.boot_len (pa_cons (pv 1) pa_nil)))
    (pss_cons
    (ps_set (i := 3) S_law.nd rfl (Or.inl rfl) (pe_call G__law_two_rules (hr.mono (by decide)) rfl m__law_two_rules k__law_two_rules b__law_two_rules .nil pass0 (pa_cons (pv 2) (pa_cons (pe_call G__law_digits (hr.mono (by decide)) rfl m__law_digits k__law_digits b__law_digits .nil pass0 (pa_cons (pe_call G__law_cell (hr.mono (by decide)) rfl m__law_cell k__law_cell b__law_cell .nil pass0 (pa_cons (pv 0) (pa_cons pe_int pa_nil))) (pa_cons (pe_op op_cat (pe_lst (pa_cons pe_int (pa_cons pe_int (pa_cons pe_int (pa_cons pe_int (pa_cons pe_int (pa_cons pe_int (pa_cons pe_int (pa_cons pe_int pa_nil))))))))) (pe_op op_rep (pe_lst (pa_cons pe_int pa_nil)) pe_int)) pa_nil))) pa_nil))))
    (pss_cons
    (ps_set (i := 4) S_law.nd rfl (Or.inr rfl) (pe_call G__law_digits (hr.mono (by decide)) rfl m__law_digits k__law_digits b__law_digits .nil pass0 (pa_cons (pe_call G__law_cell (hr.mono (by decide)) rfl m__law_cell k__law_cell b__law_cell .nil pass0 (pa_cons (pv 0) (pa_cons pe_int pa_nil))) (pa_cons (pe_op op_cat (pe_lst (pa_cons pe_int (pa_cons pe_int (pa_cons pe_int (pa_cons pe_int (pa_cons pe_int (pa_cons pe_int (pa_cons pe_int (pa_cons pe_int (pa_cons pe_int (pa_cons pe_int (pa_cons pe_int (pa_cons pe_int (pa_cons pe_int (pa_cons pe_int pa_nil))))))))))))))) (pe_op op_rep (pe_lst (pa_cons pe_int pa_nil)) pe_int)) pa_nil))))
    (pss_cons
    (ps_set (i := 5) S_law.nd rfl (Or.inl rfl) (pe_join pe_str (pe_lc (own := [("k", 15)]) (g := gName 15) (tt := tYes) rfl S_law.nd (pi_range1 rfl T.z_range (pa_cons pe_int pa_nil)) (blkOk_by (N := N_law) (sc := defScope s_law) (by decide +kernel)) (fun _ _ _ _ _ => pg_name (i := 15) S_law.nd rfl (Or.inl rfl)) (fun _ _ _ _ _ => pts_nil) (fun _ _ _ _ _ => (pe_ix ix_str (pv 1) (pe_op op_mod (pe_callTy call_int1 rfl T.z_int (by decide +kernel) (pa_cons (pe_ix (r := rIxL K) ix_list (pv 4) (pe_op op_add pe_int (pv 15)) (fun _ _ => rfl)) pa_nil)) (pv 2)) (fun _ _ => rfl))))))
    (pss_cons
    (ps_set (i := 6) S_law.nd rfl (Or.inl rfl) (pe_ifExp (pt_cmpR op_eq (pe_ix (r := rIxL K) ix_list (pv 4) pe_int (fun _ _ => rfl)) pe_int (nomark _)) (pe_slice sl_str (pe_op op_mulS (pv 5) pe_int) po_none (po_some (pe_ix (r := rIxL K) ix_list (pv 4) pe_int (fun _ _ => rfl)))) (pe_slice sl_str (pv 5) po_none (po_some (pe_ix (r := rIxL K) ix_list (pv 4) pe_int (fun _ _ => rfl))))))
    (pss_cons
    (ps_set (i := 7) S_law.nd rfl (Or.inl rfl) (pe_slice sl_str (pv 5) (po_some pe_int) (po_some (pe_op op_add pe_int (pe_ix (r := rIxL K) ix_list (pv 4) pe_int (fun _ _ => rfl))))))
    (pss_cons
    (ps_set (i := 8) S_law.nd rfl (Or.inl rfl) (pe_ix ix_str (pv 1) (pe_op op_mod (pe_callTy call_int1 rfl T.z_int (by decide +kernel) (pa_cons (pe_ix (r := rIxL K) ix_list (pv 4) pe_int (fun _ _ => rfl)) pa_nil)) (pv 2)) (fun _ _ => rfl)))
    (pss_cons
    (ps_set (i := 9) S_law.nd rfl (Or.inl rfl) (pe_lst (pa_cons (pe_make mk_Machine G_Machine___init__ (hr.mono (by decide)) rfl T.c_Machine b_Machine___init__ .nil pass0 (pa_cons (pv 1) (pa_cons (pe_ix (r := rIxL K) ix_list (pv 3) pe_int (fun _ _ => rfl)) pa_nil))) (pa_cons (pe_make mk_Machine G_Machine___init__ (hr.mono (by decide)) rfl T.c_Machine b_Machine___init__ .nil pass0 (pa_cons (pv 1) (pa_cons (pe_ix (r := rIxL K) ix_list (pv 3) pe_int (fun _ _ => rfl)) pa_nil))) pa_nil))))
    (pss_cons
    (ps_set (i := 10) S_law.nd rfl (Or.inl rfl) (pe_call G__law_all_cases (hr.mono (by decide)) rfl m__law_all_cases k__law_all_cases b__law_all_cases .nil pass0 (pa_cons (pv 1) (pa_cons (pe_ix (r := rIxL K) ix_list (pv 3) pe_int (fun _ _ => rfl)) (pa_cons (pe_ix (r := rIxL K) ix_list (pv 3) pe_int (fun _ _ => rfl)) (pa_cons (pv 6) (pa_cons (pv 7) (pa_cons (pv 8) pa_nil))))))))
    (pss_cons
    (ps_if (pt_not (pt_val (pe_call G__law_fits (hr.mono (by decide)) rfl m__law_fits k__law_fits b__law_fits .nil pass0 (pa_cons (pv 1) (pa_cons (pv 9) (pa_cons (pe_ix (r := rIxL K) ix_list (pv 3) pe_int (fun _ _ => rfl)) (pa_cons (pe_ix (r := rIxL K) ix_list (pv 3) pe_int (fun _ _ => rfl)) (pa_cons (pv 10) pa_nil)))))))) (pss_one
    (ps_ret pe_bl)) pss_nil)
    (pss_cons
    (ps_if (pt_not (pt_val (pe_call G__law_fits (hr.mono (by decide)) rfl m__law_fits k__law_fits b__law_fits .nil pass0 (pa_cons (pv 1) (pa_cons (pv 9) (pa_cons (pe_ix (r := rIxL K) ix_list (pv 3) pe_int (fun _ _ => rfl)) (pa_cons (pe_ix (r := rIxL K) ix_list (pv 3) pe_int (fun _ _ => rfl)) (pa_cons (pe_lst (pa_cons (pe_lst (pa_cons (pv 6) (pa_cons (pv 7) pa_nil))) (pa_cons (pe_lst (pa_cons (pv 6) (pa_cons (pv 8) pa_nil))) pa_nil))) pa_nil)))))))) (pss_one
    (ps_ret pe_bl)) pss_nil)
    (pss_cons
    (ps_set (i := 11) S_law.nd rfl (Or.inl rfl) (pe_call G__law_ring_rules (hr.mono (by decide)) rfl m__law_ring_rules k__law_ring_rules b__law_ring_rules .nil pass0 (pa_cons (pv 2) (pa_cons (pe_op op_cat (pe_slice sl_list (pv 4) (po_some pe_int) po_none) (pe_slice sl_list (pv 4) (po_some pe_int) po_none)) (pa_cons (pe_op op_add pe_int (pe_ix (r := rIxL K) ix_list (pv 4) pe_int (fun _ _ => rfl))) pa_nil)))))
    (pss_cons
    (ps_set (i := 12) S_law.nd rfl (Or.inl rfl) (pe_call G__law_slow_rules (hr.mono (by decide)) rfl m__law_slow_rules k__law_slow_rules b__law_slow_rules .nil pass0 (pa_cons (pv 2) (pa_cons (pe_op op_add pe_int (pe_ix (r := rIxL K) ix_list (pv 4) pe_int (fun _ _ => rfl))) (pa_cons (pe_op op_mod (pe_callTy call_int1 rfl T.z_int (by decide +kernel) (pa_cons (pe_ix (r := rIxL K) ix_list (pv 4) pe_int (fun _ _ => rfl)) pa_nil)) (pe_op op_add pe_int (pe_ix (r := rIxL K) ix_list (pv 4) pe_int (fun _ _ => rfl)))) pa_nil)))))
    (pss_cons
    (ps_set (i := 13) S_law.nd rfl (Or.inl rfl) (pe_lst (pa_cons (pe_make mk_Machine G_Machine___init__ (hr.mono (by decide)) rfl T.c_Machine b_Machine___init__ .nil pass0 (pa_cons (pv 1) (pa_cons (pv 11) pa_nil))) (pa_cons (pe_make mk_Machine G_Machine___init__ (hr.mono (by decide)) rfl T.c_Machine b_Machine___init__ .nil pass0 (pa_cons (pv 1) (pa_cons (pv 12) pa_nil))) pa_nil))))
    (pss_cons
    (ps_set (i := 14) S_law.nd rfl (Or.inl rfl) (pe_call G__law_loop (hr.mono (by decide)) rfl m__law_loop k__law_loop b__law_loop .nil pass0 (pa_cons (pv 1) (pa_cons (pv 11) (pa_cons (pv 12) (pa_cons (pe_slice sl_str (pv 6) po_none (po_some pe_int)) (pa_cons (pv 8) (pa_cons pe_int pa_nil))))))))
    (pss_cons
    (ps_if (pt_cmpR (op_neD hr.units) (pe_call G__law_told (hr.mono (by decide)) rfl m__law_told k__law_told b__law_told .nil pass0 (pa_cons (pe_ix (r := rIxL K) ix_list (pv 13) pe_int (fun _ _ => rfl)) (pa_cons (pe_ix (r := rIxL K) ix_list (pv 13) pe_int (fun _ _ => rfl)) (pa_cons (pe_ix (r := rIxL K) ix_list (pv 14) pe_int (fun _ _ => rfl)) (pa_cons (pe_ix (r := rIxL K) ix_list (pv 14) pe_int (fun _ _ => rfl)) pa_nil))))) (pe_tup (pa_cons pe_str pa_nil)) (nomark _)) (pss_one
    (ps_ret pe_bl)) pss_nil)
    (pss_cons
    (ps_if (pt_not (pt_val (pe_call G__law_fits (hr.mono (by decide)) rfl m__law_fits k__law_fits b__law_fits .nil pass0 (pa_cons (pv 1) (pa_cons (pv 13) (pa_cons (pv 11) (pa_cons (pv 12) (pa_cons (pe_call G__law_all_cases (hr.mono (by decide)) rfl m__law_all_cases k__law_all_cases b__law_all_cases .nil pass0 (pa_cons (pv 1) (pa_cons (pv 11) (pa_cons (pv 12) (pa_cons (pv 6) (pa_cons (pv 7) (pa_cons (pv 8) pa_nil))))))) pa_nil)))))))) (pss_one
    (ps_ret pe_bl)) pss_nil)
    (pss_cons
    (ps_if (pt_not (pt_val (pe_call G__law_letters_fit (hr.mono (by decide)) rfl m__law_letters_fit k__law_letters_fit b__law_letters_fit .nil pass0 (pa_cons (pv 1) (pa_cons (pv 13) (pa_cons (pe_ix (r := rIxL K) ix_list (pv 14) pe_int (fun _ _ => rfl)) (pa_cons (pe_ix (r := rIxL K) ix_list (pv 14) pe_int (fun _ _ => rfl)) (pa_cons (pe_slice sl_list (pv 4) (po_some pe_int) po_none) pa_nil)))))))) (pss_one
    (ps_ret pe_bl)) pss_nil)
    (pss_cons
    (ps_if (pt_cmpR op_notBl (pe_callN0 G_is_lead_loop (hr.mono (by decide)) rfl m_is_lead_loop k_is_lead_loop kb_is_lead_loop pass0 (pk_cons (pe_ix (r := rIxL K) ix_list (pv 14) pe_int (fun _ _ => rfl)) (pk_cons (pe_ix (r := rIxL K) ix_list (pv 14) pe_int (fun _ _ => rfl)) (pk_cons (pe_ix (r := rIxL K) ix_list (pv 13) pe_int (fun _ _ => rfl)) (pk_cons (pe_ix (r := rIxL K) ix_list (pv 13) pe_int (fun _ _ => rfl)) pk_nil))))) pe_bl (nomark _)) (pss_one
    (ps_ret pe_bl)) pss_nil)
    (pss_one
    (ps_ret (pe_cmpR (op_eqD hr.units) (pe_call G__law_told (hr.mono (by decide)) rfl m__law_told k__law_told b__law_told .nil pass0 (pa_cons (pe_ix (r := rIxL K) ix_list (pv 13) pe_int (fun _ _ => rfl)) (pa_cons (pe_ix (r := rIxL K) ix_list (pv 13) pe_int (fun _ _ => rfl)) (pa_cons (pe_ix (r := rIxL K) ix_list (pv 14) pe_int (fun _ _ => rfl)) (pa_cons (pe_ix (r := rIxL K) ix_list (pv 14) pe_int (fun _ _ => rfl)) pa_nil))))) (pe_tup (pa_cons pe_str pa_nil)) (nomark _)))))))))))))))))))))))), ?_⟩
  -- alphabet
  refine q_asgX (run_call1L (el_digs (ss := [12, 36, 36, 36, 36, 36, 36]) (ev_call (ea_cons (ev_var rfl) (ea_cons ev_c ea_nil)) (sv_cell hS h63 (by decide))) (el_lst (ea_cons ev_c (ea_cons ev_c (ea_cons ev_c (ea_cons ev_c (ea_cons ev_c (ea_cons ev_c (ea_cons ev_c ea_nil))))))) (by show 7 ≤ 100000; decide)) (by decide) (fun i hi => ?_)) fun p H1 e1 g1 => ⟨p, _, rfl, sq_of g1, by rw [digits_len]; rfl, digits_at (i := 0) (by decide) (by decide), fun al A H2 e2 => ?_⟩)
  · have k : ∀ i, i < 7 → 0 < at0 [12, 36, 36, 36, 36, 36, 36] i ∧ at0 [12, 36, 36, 36, 36, 36, 36] i < 18446744073709551616 := by decide +kernel
    exact k i hi
  have e02 := e1.trans e2
  have a6 := A.six
  have a1 := A.pos
  have gx : ∀ i, i < al.length → al[i]? = some (al.getD i 0) ∧ al.getD i 0 ∈ al := fun i hi => by
    have e : al[i]? = some (al.getD i 0) := by
      rw [List.getD_eq_getElem?_getD, List.getElem?_eq_getElem hi]
      rfl
    exact ⟨e, List.mem_of_getElem? e⟩
  refine q_asg (ev_lenS (by omega) (ev_var rfl)) fun H3 e3 => ?_
  have e03 := e02.trans e3
  -- made
  refine q_asgX (run_call2E (ev_var rfl) (el_digs (ss := SZ2) (ev_call (ea_cons (ev_var rfl) (ea_cons ev_c ea_nil)) (sv_cell (ex_l e03 hS) h63 (by decide))) (el_is (el_catL (el_lst (ea_cons ev_c (ea_cons ev_c (ea_cons ev_c (ea_cons ev_c (ea_cons ev_c (ea_cons ev_c (ea_cons ev_c (ea_cons ev_c ea_nil)))))))) (by show 8 ≤ 100000; decide)) (el_rep (n := 62) (el_lst (ea_cons ev_c ea_nil) (by show 1 ≤ 100000; decide)) (fun _ _ => ev_c) (by show 1 * 62 ≤ 100000; decide) (by decide)) (by decide)) rfl) (by rw [sz2_len]; decide) (fun i hi => by rw [sz2_len] at hi; have := sz2_pos i hi; omega)) fun p H4 e4 g4 => ⟨p, _, al.length, rfl, a1, a6, sq_of g4, by rw [digits_len, sz2_len], dg_digits sz2_len sz2_pos, ?_, ?_, ?_, fun m1 m2 R1 R2 hm1 hm1' hR1 rg1 hm2 hm2' hR2 rg2 pm x y H5 hpm e5 gm hx hy => ?_⟩)
  · exact (digits_at (ss := SZ2) (i := 4) (by decide +kernel) (by decide +kernel)).2
  · exact (digits_at (ss := SZ2) (i := 5) (by decide +kernel) (by decide +kernel)).2
  · exact (digits_at (ss := SZ2) (i := 6) (by decide +kernel) (by decide +kernel)).2
  have e05 := (e03.trans e4).trans e5
  have rc : Rc al R1 R2 := ⟨rg1.ok hR1 hm1 hm1', rg2.ok hR2 hm2 hm2', A⟩
  -- row
  refine q_asgL (el_digs (ss := SZ3) (ev_call (ea_cons (ev_var rfl) (ea_cons ev_c ea_nil)) (sv_cell (ex_l e05 hS) h63 (by decide))) (el_is (el_catL (el_lst (ea_cons ev_c (ea_cons ev_c (ea_cons ev_c (ea_cons ev_c (ea_cons ev_c (ea_cons ev_c (ea_cons ev_c (ea_cons ev_c (ea_cons ev_c (ea_cons ev_c (ea_cons ev_c (ea_cons ev_c (ea_cons ev_c (ea_cons ev_c ea_nil)))))))))))))) (by show 14 ≤ 100000; decide)) (el_rep (n := 40) (el_lst (ea_cons ev_c ea_nil) (by show 1 ≤ 100000; decide)) (fun _ _ => ev_c) (by show 1 * 40 ≤ 100000; decide) (by decide)) (by decide)) rfl) (by rw [sz3_len]; decide) (fun i hi => by rw [sz3_len] at hi; have := sz3_pos i hi; omega)) fun rp H6 hrp e6 g6 => ?_
  have R55 := row55 (cell ns 2)
  generalize digits (cell ns 2) SZ3 = r at g6 R55 ⊢
  obtain ⟨rl54, rdg, ⟨n0, hn0, en0⟩, ⟨n1, hn1, en1⟩, ⟨n2, hn2, en2⟩, ⟨n3, hn3, en3⟩, ⟨n11, hn11, en11⟩, ⟨n12, hn12, en12⟩⟩ := R55
  have rw' : ∀ {σ : L2.St} {H' : Hp} {i : Nat}, Ex H6 H' → σ[4]? = some (some (.ref rp)) → i < 54 → Ev (tOp (rIxL K) (tVar 4) (tC (.int (i : Int)))) σ H' (.int (at0 r i)) := fun e h hi => ev_atI (sq_of (e _ _ g6)) (by omega) rfl (ev_var h) ev_c
  -- free
  let ix : Nat → Nat := fun k => (at0 r k % (al.length : Int)).toNat
  have hix : ∀ k, ix k < al.length ∧ at0 r k % (al.length : Int) = ((ix k : Nat) : Int) := fun k => by
    obtain ⟨h1, h2⟩ := em_nat (x := at0 r k) (n := al.length) (by omega)
    exact ⟨h2, h1⟩
  have ef := flat_sing ((List.range 40).map fun k => al.getD (ix (14 + k)) 0)
  refine q_asg (v := tx ((List.range 40).map fun k => al.getD (ix (14 + k)) 0)) (ev_is (ev_joinL (ps := ((List.range 40).map fun k => al.getD (ix (14 + k)) 0).map fun c => [c]) (ev_is ev_c (by rw [mt_is])) ?_ (by rw [ef, List.length_map, List.length_range]; decide)) (by rw [ef])) fun H7 e7 => ?_
  · have em : (((List.range 40).map fun k => al.getD (ix (14 + k)) 0).map fun c => [c]).map tx = (List.range 40).map fun k => tx [al.getD (ix (14 + k)) 0] := by
      rw [List.map_map, List.map_map]
      rfl
    rw [em]
    refine el_lcRy (n := 40) (fun k => tx [al.getD (ix (14 + k)) 0]) (ea_cons ev_c ea_nil) (by decide) (fun x => rfl) fun k H7 e7 hk => ?_
    exact ev_ixS (l := al) (by omega) (gx _ (hix (14 + k)).1).1 (ev_var rfl) (ev_is (ev_mod (j := (al.length : Int)) (by omega) (ev_int (ev_atI (sq_of (e7 _ _ g6)) (i := 14 + k) (by omega) (by omega) (ev_var rfl) (ev_add ev_c (ev_var rfl)))) (ev_var rfl)) (by rw [(hix (14 + k)).2]))
  have frl : ((List.range 40).map fun k => al.getD (ix (14 + k)) 0).length = 40 := by rw [List.length_map, List.length_range]
  have fri : ∀ c ∈ (List.range 40).map fun k => al.getD (ix (14 + k)) 0, c ∈ al := fun c hc => by
    obtain ⟨k, _, rfl⟩ := List.mem_map.mp hc
    exact (gx _ (hix (14 + k)).1).2
  generalize ((List.range 40).map fun k => al.getD (ix (14 + k)) 0) = fr at frl fri ⊢
  -- opening
  have rpl := rep_lenW fr 10
  have rpi : ∀ c ∈ rep 10 fr, c ∈ al := rep_in fri 10
  let o : List Nat := if n0 = 0 then cutL (rep 10 fr) none (some (n1 : Int)) else cutL fr none (some (n2 : Int))
  have ho : OkT al 400 o := by
    show OkT al 400 (if n0 = 0 then cutL (rep 10 fr) none (some (n1 : Int)) else cutL fr none (some (n2 : Int)))
    split
    · exact ⟨fun c hc => rpi c (cutL_sub c hc), by rw [cutL_to, List.length_take]; omega⟩
    · exact ⟨fun c hc => fri c (cutL_sub c hc), by rw [cutL_to, List.length_take]; omega⟩
  refine q_asg (v := tx o) (ev_if (b := decide (n0 = 0)) (et_is (et_eqI (rw' (i := 0) e7 rfl (by decide)) ev_c) (by rw [en0, decide_eq_decide]; omega)) (fun hb => ?_) (fun hb => ?_)) fun H8 e8 => ?_
  · refine ev_is (ev_slS (l := rep 10 fr) (by rw [rpl]; omega) (ev_mulS (l := fr) (n := 10) (by decide) (by omega) (ev_var rfl) ev_c) eo_none (eo_some (i := (n1 : Int)) (ev_is (rw' (i := 1) e7 rfl (by decide)) (by rw [en1])))) ?_
    show _ = tx (if n0 = 0 then _ else _)
    rw [if_pos (of_decide_eq_true hb)]
  · refine ev_is (ev_slS (l := fr) (by omega) (ev_var rfl) eo_none (eo_some (i := (n2 : Int)) (ev_is (rw' (i := 2) e7 rfl (by decide)) (by rw [en2])))) ?_
    show _ = tx (if n0 = 0 then _ else _)
    rw [if_neg (of_decide_eq_false hb)]
  generalize o = o at ho ⊢
  have e68 := e7.trans e8
  -- word, letter
  refine q_asg (ev_slS (l := fr) (by omega) (ev_var rfl) (eo_some (i := ((30 : Nat) : Int)) ev_c) (eo_some (i := ((30 + (1 + n3) : Nat) : Int)) (ev_is (ev_add (i := 31) ev_c (rw' (i := 3) e68 rfl (by decide))) (by rw [en3]; congr 1; omega)))) fun H9 e9 => ?_
  have hu : OkT al 4 (cutL fr (some ((30 : Nat) : Int)) (some ((30 + (1 + n3) : Nat) : Int))) := ⟨fun c hc => fri c (cutL_sub c hc), by rw [cutL_both, List.length_take]; omega⟩
  generalize cutL fr (some ((30 : Nat) : Int)) (some ((30 + (1 + n3) : Nat) : Int)) = u at hu ⊢
  have e69 := e68.trans e9
  refine q_asg (ev_ixS (l := al) (by omega) (gx _ (hix 4).1).1 (ev_var rfl) (ev_is (ev_mod (j := (al.length : Int)) (by omega) (ev_int (rw' (i := 4) e69 rfl (by decide))) (ev_var rfl)) (by rw [(hix 4).2]))) fun H10 e10 => ?_
  have hlet := (gx _ (hix 4).1).2
  generalize al.getD (ix 4) 0 = lt at hlet ⊢
  have hl1 : OkT al 1 [lt] := ⟨fun c hc => by rw [List.mem_singleton.mp hc]; exact hlet, Nat.le_refl _⟩
  have e610 := e69.trans e10
  have e510 := e6.trans e610
  have e010 := e05.trans e510
  have md0 : ∀ {σ : L2.St} {H' : Hp}, Ex H5 H' → σ[3]? = some (some (.ref pm)) → Ev (tOp (rIxL K) (tVar 3) (tC (.int 0))) σ H' x := fun e h => ev_op (ev_var h) ev_c (rv_ixL (sq_of (e _ _ gm)) (atI_nat (j := 0) rfl))
  have md1 : ∀ {σ : L2.St} {H' : Hp}, Ex H5 H' → σ[3]? = some (some (.ref pm)) → Ev (tOp (rIxL K) (tVar 3) (tC (.int 1))) σ H' y := fun e h => ev_op (ev_var h) ev_c (rv_ixL (sq_of (e _ _ gm)) (atI_nat (j := 1) rfl))
  -- machines
  refine at_st (σ' := [some (.ref a), some (tx al), some (.int (al.length : Int)), some (.ref pm), some (.ref rp), some (tx fr), some (tx o), some (tx u), some (tx [lt]), none, none, none, none, none, none, none]) rfl ?_
  refine q_asgLst2P (P1 := MchP C_Machine al R1) (P2 := MchP C_Machine al R2) mchp_mo mchp_mo (ep_mk (ev_var rfl) (fun H11 e11 => ep_v (md0 (e510.trans e11) rfl) fun H12 e12 => (tab_sol.mono ((e510.trans e11).trans e12) hx).s rc.o1 (by omega)) A rc.o1) (fun H11 e11 => ep_mk (ev_var rfl) (fun H12 e12 => ep_v (md1 ((e510.trans e11).trans e12) rfl) fun H13 e13 => (tab_sol.mono (((e510.trans e11).trans e12).trans e13) hy).s rc.o2 (by omega)) A rc.o2) fun ms v1 v2 H11 e11 gms hv1 hv2 => ?_
  obtain ⟨q1, rfl, hM1⟩ := hv1
  obtain ⟨q2, rfl, hM2⟩ := hv2
  have e511 := e510.trans e11
  -- cases
  refine q_callQ (dvs := []) (ea_cons (ev_var rfl) (ea_cons (md0 e511 rfl) (ea_cons (md1 e511 rfl) (ea_cons (ev_var rfl) (ea_cons (ev_var rfl) (ea_cons (ev_var rfl) ea_nil)))))) fun H12 e12 => ⟨al, o, u, [lt], R1, R2, x, y, rfl, rc, tab_sol.mono (e511.trans e12) hx, tab_sol.mono (e511.trans e12) hy, ho, hu, hl1, fun pc ys H13 hpc e13 gc hcz hC => ?_⟩
  have e1113 := e12.trans e13
  have e513 := e511.trans e1113
  refine q_skip (et_is (et_not (et_B (ev_call (ea_cons (ev_var rfl) (ea_cons (ev_var rfl) (ea_cons (md0 e513 rfl) (ea_cons (md1 e513 rfl) (ea_cons (ev_var rfl) ea_nil))))) (sv_fit (e1113 _ _ gms) (hM1.mono e1113) (hM2.mono e1113) rc (tab_sol.mono e513 hx) (tab_sol.mono e513 hy) gc hC)))) rfl) fun H14 e14 => ?_
  have e1114 := e1113.trans e14
  have e514 := e511.trans e1114
  refine q_skip (et_is (et_not (et_B (ev_call5P (ev_var rfl) (ev_var rfl) (md0 e514 rfl) (md1 e514 rfl) (ep_cs (al := al) (as := [[tx o, tx u], [tx o, tx [lt]]]) (ell_lst (ell_cons (el_lst (ea_cons (ev_var rfl) (ea_cons (ev_var rfl) ea_nil)) (by show 2 ≤ 100000; decide)) (ell_cons (el_lst (ea_cons (ev_var rfl) (ea_cons (ev_var rfl) ea_nil)) (by show 2 ≤ 100000; decide)) ell_nil)) (by show 2 ≤ 1000; decide)) (fun a ha => by
      simp only [List.mem_cons, List.not_mem_nil, or_false] at ha
      rcases ha with rfl | rfl
      · exact ⟨o, u, rfl, ho, hu.1, by have := hu.2; omega⟩
      · exact ⟨o, [lt], rfl, ho, hl1.1, by show 1 ≤ 400; decide⟩)) (fun v H15 e15 hv => by
      obtain ⟨p5, y5, rfl, g5, c5⟩ := hv
      exact sv_fit ((e1114.trans e15) _ _ gms) (hM1.mono (e1114.trans e15)) (hM2.mono (e1114.trans e15)) rc (tab_sol.mono (e514.trans e15) hx) (tab_sol.mono (e514.trans e15) hy) g5 c5)))) rfl) fun H15 e15 => ?_
  have e615 := ((e610.trans e11).trans e1114).trans e15
  have dr : (r.drop 14).length = 40 := by rw [List.length_drop, rl54]
  -- quick
  refine at_st (σ' := [some (.ref a), some (tx al), some (.int (al.length : Int)), some (.ref pm), some (.ref rp), some (tx fr), some (tx o), some (tx u), some (tx [lt]), some (.ref ms), some (.ref pc), none, none, none, none, none]) rfl ?_
  refine q_asgX (run_call3M (ev_var rfl) (el_is (el_catL (el_from (n := 14) rfl (ev_var rfl) (sq_of (e615 _ _ g6))) (el_from (n := 14) rfl (ev_var rfl) (sq_of (e615 _ _ g6))) (by rw [List.length_map, dr]; decide)) (List.map_append ..).symm) (fun H16 e16 => ev_is (ev_add (i := 1) ev_c (rw' (i := 11) (e615.trans e16) rfl (by decide))) (by rw [en11]; rw [Int.natCast_add]; rfl)) fun p H16 e16 g16 => ⟨p, r.drop 14 ++ r.drop 14, al.length, 1 + n11, rfl, a1, a6, by omega, by omega, sq_of g16, by rw [List.length_append, dr]; decide, (rdg.drop 14).app2 (rdg.drop 14), fun Rq hRq rgq hne vq H17 e17 hvq => ?_⟩)
  have e617 := (e615.trans e16).trans e17
  obtain ⟨t, ht, et⟩ := int_mod (x := at0 r 13) (n := 1 + n12) (by omega)
  have plus : ∀ {σ : L2.St} {H' : Hp}, Ex H6 H' → σ[4]? = some (some (.ref rp)) → Ev (tOp (rI0 fun i j => .int (i + j)) (tC (.int 1)) (tOp (rIxL K) (tVar 4) (tC (.int 12)))) σ H' (.int ((1 + n12 : Nat) : Int)) := fun e h => ev_is (ev_add (i := 1) ev_c (rw' (i := 12) e h (by decide))) (by rw [en12, Int.natCast_add]; rfl)
  -- slow
  refine q_callQ (dvs := []) (ea_cons (ev_var rfl) (ea_cons (plus e617 rfl) (ea_cons (ev_is (ev_mod (j := ((1 + n12 : Nat) : Int)) (by omega) (ev_int (rw' (i := 13) e617 rfl (by decide))) (plus e617 rfl)) (by rw [et])) ea_nil))) fun H18 e18 => ⟨al.length, 1 + n12, t, rfl, a1, a6, by omega, by omega, fun vw H19 e19 hvw => ?_⟩
  have e1719 := e18.trans e19
  have e619 := e617.trans e1719
  have okq := rgq.ok hRq (by omega) (by omega)
  have okw : TblOk al.length (slowR al.length (1 + n12) t) := (slow_rg (by omega)).ok slow_len (by omega) (by omega)
  have rc2 : Rc al Rq (slowR al.length (1 + n12) t) := ⟨okq, okw, A⟩
  have hvq := tab_sol.mono e1719 hvq
  -- rings
  refine q_asgLst2P (P1 := MchP C_Machine al Rq) (P2 := MchP C_Machine al (slowR al.length (1 + n12) t)) mchp_mo mchp_mo (ep_mk (ev_var rfl) (fun H11 e11 => ep_v (ev_var rfl) fun H12 e12 => (tab_sol.mono (e11.trans e12) hvq).s okq (by omega)) A okq) (fun H11 e11 => ep_mk (ev_var rfl) (fun H12 e12 => ep_v (ev_var rfl) fun H13 e13 => (tab_sol.mono ((e11.trans e12).trans e13) hvw).s okw (by omega)) A okw) fun rs v1 v2 H20 e20 grs hv1 hv2 => ?_
  obtain ⟨k1, rfl, hK1⟩ := hv1
  obtain ⟨k2, rfl, hK2⟩ := hv2
  have hvq := tab_sol.mono e20 hvq
  have hvw := tab_sol.mono e20 hvw
  have zo := ho.2
  have o39 : OkT al 39 (cutL o none (some (39 : Int))) := ⟨fun c hc => ho.1 c (cutL_sub c hc), by
    have : cutL o none (some ((39 : Nat) : Int)) = o.take 39 := cutL_to 39
    show (cutL o none (some ((39 : Nat) : Int))).length ≤ 39
    rw [this, List.length_take]
    omega⟩
  -- the round trip
  refine at_st (σ' := [some (.ref a), some (tx al), some (.int (al.length : Int)), some (.ref pm), some (.ref rp), some (tx fr), some (tx o), some (tx u), some (tx [lt]), some (.ref ms), some (.ref pc), some vq, some vw, some (.ref rs), none, none]) rfl ?_
  have hprod : Rq.length * (slowR al.length (1 + n12) t).length ≤ 12 * 12 := Nat.mul_le_mul (by omega) (by rw [slow_len]; omega)
  refine q_callQ (dvs := []) (ea_cons (ev_var rfl) (ea_cons (ev_var rfl) (ea_cons (ev_var rfl) (ea_cons (ev_slS (l := o) (by omega) (ev_var rfl) eo_none (eo_some (i := 39) ev_c)) (ea_cons (ev_var rfl) (ea_cons ev_c ea_nil)))))) fun H21 e21 => ⟨al, _, [lt], Rq, slowR al.length (1 + n12) t, vq, vw, 2, rfl, rc2, tab_sol.mono e21 hvq, tab_sol.mono e21 hvw, o39.1, hl1.1, by have := o39.2; omega, by show 1 ≤ 4; decide, by decide, fun z => absurd ⟨rfl, by have := o39.2; show _ + 1 * _ ≤ 400; omega, by omega⟩ z, fun i n hpr z1 z2 pt H22 hpt e22 gt => ?_⟩
  obtain ⟨hn1', hp1, hp2⟩ := hpr rfl
  have hlead := lead_round (t := t) okq rgq.row hne hlet o39.1 (show 1 ≤ 1 + n12 by omega) hn1' hp1 hp2 okw
  have hb : OkT al 400 (cutL o none (some (39 : Int)) ++ rep i [lt]) := ⟨fun c hc => (List.mem_append.mp hc).elim (o39.1 c) (rep_in hl1.1 i c), z1⟩
  have hc : OkT al 400 (rep n [lt]) := ⟨rep_in hl1.1 n, z2⟩
  generalize cutL o none (some (39 : Int)) ++ rep i [lt] = vb at hlead hb gt
  generalize rep n [lt] = vc at hlead hc gt
  have e2022 := e21.trans e22
  refine at_st (σ' := [some (.ref a), some (tx al), some (.int (al.length : Int)), some (.ref pm), some (.ref rp), some (tx fr), some (tx o), some (tx u), some (tx [lt]), some (.ref ms), some (.ref pc), some vq, some vw, some (.ref rs), some (.ref pt), none]) rfl ?_
  have zb := hb.2
  have zc := hc.2
  have t0 : ∀ {σ : L2.St} {H' : Hp}, Ex H22 H' → σ[14]? = some (some (.ref pt)) → Ev (tOp (rIxL K) (tVar 14) (tC (.int 0))) σ H' (tx vb) := fun e h => ev_op (ev_var h) ev_c (rv_ixL (sq_of (e _ _ gt)) (atI_nat (j := 0) rfl))
  have t1 : ∀ {σ : L2.St} {H' : Hp}, Ex H22 H' → σ[14]? = some (some (.ref pt)) → Ev (tOp (rIxL K) (tVar 14) (tC (.int 1))) σ H' (tx vc) := fun e h => ev_op (ev_var h) ev_c (rv_ixL (sq_of (e _ _ gt)) (atI_nat (j := 1) rfl))
  have r0 : ∀ {σ : L2.St} {H' : Hp}, Ex H22 H' → σ[13]? = some (some (.ref rs)) → Ev (tOp (rIxL K) (tVar 13) (tC (.int 0))) σ H' (.ref k1) := fun e h => ev_op (ev_var h) ev_c (rv_ixL (sq_of (e _ _ (e2022 _ _ grs))) (atI_nat (j := 0) rfl))
  have r1 : ∀ {σ : L2.St} {H' : Hp}, Ex H22 H' → σ[13]? = some (some (.ref rs)) → Ev (tOp (rIxL K) (tVar 13) (tC (.int 1))) σ H' (.ref k2) := fun e h => ev_op (ev_var h) ev_c (rv_ixL (sq_of (e _ _ (e2022 _ _ grs))) (atI_nat (j := 1) rfl))
  have yes : tld al al vb vc Rq (slowR al.length (1 + n12) t) [.str ("yes" : Str)] := .inr (.inr (.inr ⟨rfl, hb.1, hc.1, by rw [hlead]; rfl⟩))
  have fy : FlA [.str ("yes" : Str)] := fla_cons (fl_str (by decide +kernel)) fla_nil
  refine q_skip (et_test (ev_neUU fy (eu_call (ea_cons (r0 (Ex.refl _) rfl) (ea_cons (r1 (Ex.refl _) rfl) (ea_cons (t0 (Ex.refl _) rfl) (ea_cons (t1 (Ex.refl _) rfl) ea_nil)))) (su_tld (hK1.mono e2022) (hK2.mono e2022) (by omega) (by omega) yes)) (eu_tup (ea_cons ev_c ea_nil) (by show 1 ≤ 100000; decide)))) fun H23 e23 => ?_
  have e2023 := e2022.trans e23
  refine q_skip (et_is (et_not (et_B (ev_call5P (P := CsP al) (ev_var rfl) (ev_var rfl) (ev_var rfl) (ev_var rfl) (ep_ac (ea_cons (ev_var rfl) (ea_cons (ev_var rfl) (ea_cons (ev_var rfl) (ea_cons (ev_var rfl) (ea_cons (ev_var rfl) (ea_cons (ev_var rfl) ea_nil)))))) rc2 (tab_sol.mono e2023 hvq) (tab_sol.mono e2023 hvw) ho hu hl1) (fun v H24 e24 hv => by
      obtain ⟨p5, y5, rfl, g5, c5⟩ := hv
      exact sv_fit ((e2023.trans e24) _ _ grs) (hK1.mono (e2023.trans e24)) (hK2.mono (e2023.trans e24)) rc2 (tab_sol.mono (e2023.trans e24) hvq) (tab_sol.mono (e2023.trans e24) hvw) g5 c5)))) rfl) fun H24 e24 => ?_
  have e2024 := e2023.trans e24
  have e2224 := e23.trans e24
  have e624 := (e619.trans e20).trans e2024
  refine q_skip (et_is (et_not (et_B (ev_call5P (z := .bl true) (P := LiP (r.drop 4)) (ev_var rfl) (ev_var rfl) (t0 e2224 rfl) (t1 e2224 rfl) (fun H1 e Q q => el_from (n := 4) rfl (ev_var rfl) (sq_of (e624 _ _ g6)) H1 e Q fun p H2 _ e2 g2 => q _ H2 e2 ⟨p, rfl, g2⟩) (fun v H25 e25 hv => by
      obtain ⟨p5, rfl, g5⟩ := hv
      exact fun H26 e26 Q' q' E' => ⟨al, vb, vc, rs, p5, k1, k2, r.drop 4, Rq, slowR al.length (1 + n12) t, rfl, ((e2024.trans e25).trans e26) _ _ grs, hK1.mono ((e2024.trans e25).trans e26), hK2.mono ((e2024.trans e25).trans e26), A, hb, hc, sq_of (e26 _ _ g5), by rw [List.length_drop, rl54]; decide, by rw [at0_drop]; exact (rdg.at _).1, q'⟩)))) rfl) fun H25 e25 => ?_
  have e2025 := e2024.trans e25
  have e2225 := e2224.trans e25
  refine q_skip (et_is (et_test (ev_op (ev_callN0 (zs := [tx vc, tx vb, .ref k2, .ref k1]) (z := .bl true) (ea_cons (t1 e2225 rfl) (ea_cons (t0 e2225 rfl) (ea_cons (r1 e2225 rfl) (ea_cons (r0 e2225 rfl) ea_nil)))) rfl (fun H26 e26 Q' q' E' => ⟨k1, k2, al, al, vb, vc, Rq, slowR al.length (1 + n12) t, rfl, hK1.mono (e2025.trans e26), hK2.mono (e2025.trans e26), by omega, by omega, .inr (.inr (.inr ⟨rfl, hb.1, hc.1, by rw [hlead]; exact q'⟩))⟩)) ev_c (fun H1 e Q' q' => ⟨true, true, rfl, rfl, q' H1 (Ex.refl H1)⟩))) rfl) fun H26 e26 => ?_
  have e2026 := e2025.trans e26
  have e2226 := e2225.trans e26
  exact s_ret (ev_eqUU fy (eu_call (ea_cons (r0 e2226 rfl) (ea_cons (r1 e2226 rfl) (ea_cons (t0 e2226 rfl) (ea_cons (t1 e2226 rfl) ea_nil)))) (su_tld (hK1.mono e2026) (hK2.mono e2026) (by omega) (by omega) yes)) (eu_tup (ea_cons ev_c ea_nil) (by show 1 ≤ 100000; decide))) fun H27 e27 => q H27
end
end Ver
namespace Ver
open PySem PySem.Spec PyProof.Rows L2 Evl
/-! ### the law's own call: callerA has no guard under way -/
section
variable {P : Program} {w : World} {K : PySem.W.Frag} {mg mb : Str → Option Value} {k : Nat} {fa a : Addr} {fd : FuncData} {x : Str} {sp : Sp} {s1 : Shared} {vs : List Value} {ns : List Int}
/-- out of an abstract heap that tracks the script at most -/
theorem law_fromG (KX : K.In s1.heap) (hns : s1.heap.Ns mainGlobals mg) (hb : s1.heap.Ns builtinsNs mb) (hbb : ∀ y : Str, y ≠ "__name__" → mb y = bootBuiltins y) (lim : s1.heap.NoLimit) (gs : s1.gens = #[])
    (ha : s1.heap.get? a = some { cls := .type "list", data := .seq vs.toArray }) (room : Room k callerA)
    (F : ∀ bs : Heap, K.In bs → bs.Ns mainGlobals mg → FnG P w K mg bs CX0 k fa fd [x] sp) (bind : ∀ (s : Shared) (u : Value), BindsTo s fd ⟨[u], []⟩ [(x, u)])
    (H : Hp) (only : L2.Only H) (said : sp [.ref a] H (fun v _ => v = .bl true) fun _ _ _ => False) (hok : HOk P w H s1.heap) (one : ∀ b, H b ≠ none → b = a) (own : H a ≠ none → K.lookup a = none) :
    codeAny (model P w) callerA (.call (.ref fa) ⟨[.ref a], []⟩) (fun r s' => r = .ok (.ret (.bool true)) ∧ OldK s1.heap s'.heap ∧ s'.os = s1.os ∧ AllBare s'.gens) s1 := by
  have free : ∀ b, b ≠ a → H b = none := fun b hb => Classical.byContradiction fun z => hb (one b z)
  have kept : ∀ {b : Addr} {m : Str → Option Value}, s1.heap.Ns b m → (hidT s1.heap H).Ns b m := by
    rintro b m ⟨o, es, ep, h1, h2, h3⟩
    refine ⟨o, es, ep, hidT_get h1 (free b fun z => ?_), h2, h3⟩
    subst z
    rw [ha] at h1
    cases h1
    cases (show Data.seq vs.toArray _ = Data.dict es ep from h2)
  have inB : K.In (hidT s1.heap H) := fun b o e => by
    refine hidT_get (KX b o e) (Classical.byContradiction fun z => ?_)
    have hba := one b z
    subst hba
    rw [own z] at e
    cases e
  have md : Mod K mg (hidT s1.heap H) := by
    obtain ⟨mc, l1, l2⟩ := lim
    exact ⟨inB, kept hns, ⟨mb, kept hb, hbb⟩, mc, kept l1, l2⟩
  have env : Env0 P w K mg (hidT s1.heap H) callerA [] s1 H := by
    refine ⟨rfl, md, fun b o z => of_hidT z, Nat.le_of_eq (hidT_size _ _), trivial, fun b z => ?_, hok, .of_eq gs⟩
    exact absurd (show b ∈ ([] : List Addr) from z) List.not_mem_nil
  have run := (F _ inB (kept hns)).runs callerA [] s1 H ⟨[.ref a], []⟩ [.ref a] [.ref a] _ _ rfl room env (bind s1 (.ref a)) (.cons rfl .nil) said
  refine codeAny_mono run ?_
  intro r s' h
  match r, h with
  | .error e, h => exact h.elim
  | .ok (.ret u), h =>
    obtain ⟨v, H', os, bare, un, ok2, rv, hv⟩ := h
    have hv : v = .bl true := hv
    subst hv
    obtain rfl : u = Value.bool true := rv
    refine ⟨rfl, OldK.of_keep fun b o z => ?_, os, bare⟩
    by_cases c : H b = none
    · exact un.keep b o z c (fun y => absurd (show b ∈ ([] : List Addr) from y) List.not_mem_nil) List.not_mem_nil
    · rcases only b with y | ⟨ob, xs, y⟩
      · exact absurd y c
      · have y2 := un.frzs b ob _ y
        have f1 := (hok b _ y).1
        have f2 := (ok2 b _ y2).1
        rw [z] at f1
        cases f1
        exact f2
theorem law_goG (KX : K.In s1.heap) (hns : s1.heap.Ns mainGlobals mg) (hb : s1.heap.Ns builtinsNs mb) (hbb : ∀ y : Str, y ≠ "__name__" → mb y = bootBuiltins y) (lim : s1.heap.NoLimit) (gs : s1.gens = #[])
    (ha : s1.heap.get? a = some { cls := .type "list", data := .seq vs.toArray }) (hints : IntsAre vs ns) (hl : ns.length ≤ sizeLine) (room : Room k callerA)
    (F : ∀ bs : Heap, K.In bs → bs.Ns mainGlobals mg → FnG P w K mg bs CX0 k fa fd [x] sp) (bind : ∀ (s : Shared) (u : Value), BindsTo s fd ⟨[u], []⟩ [(x, u)])
    (said : ∀ H : Hp, L2.Only H → SqL K H a (ns.map V.int) → sp [.ref a] H (fun v _ => v = .bl true) fun _ _ _ => False) :
    codeAny (model P w) callerA (.call (.ref fa) ⟨[.ref a], []⟩) (fun r s' => r = .ok (.ret (.bool true)) ∧ OldK s1.heap s'.heap ∧ s'.os = s1.os ∧ AllBare s'.gens) s1 := by
  have rv := L2.vals_ints hints
  have len := hints.length
  by_cases c : K.lookup a = none
  · let o : Obj := { cls := .type "list", data := .seq vs.toArray }
    let H : Hp := fun b => if b = a then some (.frz o (.lst (ns.map V.int))) else none
    have at_ : H a = some (.frz o (.lst (ns.map V.int))) := if_pos rfl
    have no_ : ∀ b, b ≠ a → H b = none := fun b z => if_neg z
    have only : L2.Only H := fun b => by
      by_cases z : b = a
      · subst z
        exact .inr ⟨_, _, at_⟩
      · exact .inl (no_ b z)
    refine law_fromG KX hns hb hbb lim gs ha room F bind H only (said H only (.inl (.inr ⟨o, at_⟩))) (fun b u z => ?_) (fun b z => Classical.byContradiction fun y => z (no_ b y)) fun _ => c
    by_cases y : b = a
    · subst y
      rw [at_] at z
      cases z
      exact ⟨ha, by rw [List.length_map]; exact hl, vs, _, rv, ha⟩
    · rw [no_ b y] at z
      cases z
  · obtain ⟨o, ho⟩ := Option.ne_none_iff_exists'.mp c
    have z := KX a o ho
    rw [ha] at z
    cases z
    refine law_fromG KX hns hb hbb lim gs ha room F bind (fun _ => none) (fun _ => .inl rfl) (said _ (fun _ => .inl rfl) ?_) (fun b u z => by cases z) (fun b z => absurd rfl z) fun z => absurd rfl z
    exact .inr ⟨_, vs.toArray, _, ho, rfl, rfl, rfl, by rw [List.size_toArray, len]; exact hl, by simpa using rv⟩
end
/-- the end, from the law's promise where no guard is under way -/
theorem walkG {l : PySem.W.OpenLaw} {n k : Nat} {q : Program} {loose : List Str} {XP : (Str → Option Value) → Heap → Prop} {YP : World → Heap → Prop} {d : DefRec} {K : Params → PySem.W.Frag} {sp : World → Sp} {x : Str}
    (most : l.most = some n) (hn : n ≤ sizeLine) (nodef : d.params.defaults = []) (room : Room k callerA) (inK : ∀ (w : World) (h : Heap), YP w h → (K w.params).In h)
    (F : ∀ (w : World) (mg : Str → Option Value) (fa : Addr) (h : Heap), (K w.params).In h → h.Ns mainGlobals mg → mg d.name = some (.ref fa) →
      ∃ fd : FuncData, (∀ (s : Shared) (u : Value), BindsTo s fd ⟨[u], []⟩ [(x, u)]) ∧ ∀ bs : Heap, (K w.params).In bs → bs.Ns mainGlobals mg → FnG l.prog w (K w.params) mg bs CX0 k fa fd [x] (sp w))
    (said : ∀ (w : World) (H : Hp) (a : Addr) (ns : List Int), ns.length ≤ n → L2.Only H → SqL (K w.params) H a (ns.map V.int) → sp w [.ref a] H (fun v _ => v = .bl true) fun _ _ _ => False) :
    PySem.W.WalkO q loose XP YP l.row.toRowW d [] (fun f vs => PySem.call f vs) := by
  refine Att.attach_call most nodef ?_
  intro w s0 s1 mg mb fa o pm cd doc a vs ns G Y ho hd hcd hmg hobj hints hlen hg
  obtain ⟨fd, hb, hF⟩ := F w mg fa _ (inK w _ Y) G.T.g hmg
  exact law_goG (inK w _ Y) G.T.g G.T.b G.T.builtins G.T.nolimit hg hobj hints (Nat.le_trans hlen hn) room hF hb fun H hO hS => said w H a ns hlen hO hS
end Ver
namespace Ver
open PySem PySem.Spec PyProof.Rows L2
/-! ### the head by one kernel run: facts as tests -/
/-- what the names reach in n steps, then one step more of the new functions, the keyword defaults, the interpreter's statics -/
def asX (g : Addr → Option Obj) (n : Nat) : List Addr :=
  let a3 := He.asG g (n - 1)
  let a4 := He.growG g a3
  a4 ++ ((a4.drop a3.length).flatMap fun a => match g a with
    | some ⟨_, _, .func fd, _⟩ => He.refV fd.code
    | _ => []) ++ (a4.flatMap fun a => match g a with
    | some ⟨_, _, .func fd, _⟩ => He.refV fd.kwdefaults
    | _ => []) ++ [cStatics]
abbrev Fc : Type := PySem.W.Frag → Bool
def allF (fas : List (List Fc)) (K : PySem.W.Frag) : Bool := fas.all fun l => l.all fun f => f K
def obsH (fas : List (List Fc)) (fn : List He5.DefA) (K : PySem.W.Frag) : He.AlD := (allF fas K && fn.all fun d => d.ok K, fn.map fun d => He5.fnA K (d.at_ K))
def SaysH (fas : List (List Fc)) (fn : List He5.DefA) (K : PySem.W.Frag) : Prop := obsH fas fn K = He5.valA fn
def obsHG (n : Nat) (fas : List (List Fc)) (fn : List He5.DefA) (g : Addr → Option Obj) : He.AlD := obsH fas fn (He.frG g (asX g n))
def hookH (n : Nat) (fas : List (List Fc)) (fn : List He5.DefA) : PySem.W.Hook where
  α := He.AlD
  obs := fun s => obsHG n fas fn s.heap.get?
  val := fun _ => He5.valA fn
  says := fun _ h => ∃ K : PySem.W.Frag, K.In h ∧ SaysH fas fn K
  of := fun _ _ e => ⟨_, He.frG_in, e⟩
  keeps := fun _ _ _ ⟨K, hK, c⟩ k => ⟨K, PySem.W.Frag.In.keeps hK k, c⟩
theorem obsHG_eq {n : Nat} {fas : List (List Fc)} {fn : List He5.DefA} {g : Addr → Option Obj} {s : Shared} (h : ∀ a, g a = s.heap.get? a) : obsHG n fas fn g = (hookH n fas fn).obs s := by
  have e : g = s.heap.get? := funext h
  rw [e] <;> rfl
section
variable {fas : List (List Fc)} {fn : List He5.DefA} {K : PySem.W.Frag}
theorem SaysH.fact (c : SaysH fas fn K) (j i : Nat) {l : List Fc} {f : Fc} (h1 : fas[j]? = some l) (h2 : l[i]? = some f) : f K = true := by
  have c1 := (He.ba (show (allF fas K && fn.all fun d => d.ok K) = true from congrArg (fun z : He.AlD => z.1) c)).1
  have c2 := List.all_eq_true.mp (show (fas.all fun l => l.all fun f => f K) = true from c1) l (List.mem_of_getElem? h1)
  exact List.all_eq_true.mp c2 f (List.mem_of_getElem? h2)
theorem SaysH.def_ (c : SaysH fas fn K) (i : Nat) {d : He5.DefA} (h : fn[i]? = some d) : ∃ fd, L2.FunD K d.name d.qual d.params d.body d.scope (d.dvs K) (d.kws K) (d.at_ K) fd := by
  have c2 := (He.ba (show (allF fas K && fn.all fun d => d.ok K) = true from congrArg (fun z : He.AlD => z.1) c)).2
  have e : fn.map (fun d => He5.fnA K (d.at_ K)) = fn.map He5.DefA.val := congrArg (fun z : He.AlD => z.2) c
  have e2 : (fn.map fun d => He5.fnA K (d.at_ K))[i]? = (fn.map He5.DefA.val)[i]? := by rw [e]
  rw [List.getElem?_map, List.getElem?_map, h] at e2
  exact He5.DefA.funD (Option.some.inj e2) (List.all_eq_true.mp c2 d (List.mem_of_getElem? h))
theorem kwF_of {x qual : Str} {st : Stmt} {f : Addr} {kws : List (Str × V)} (hk : kws ≠ []) (F : ∃ fd, L2.FunD K x qual (defArgs st) (defBody st) (defScope st) [] kws f fd) : ∃ fd, Fun K x qual st f fd ∧ KwF K fd kws := by
  obtain ⟨fd, F⟩ := F
  obtain ⟨oc, od, dV, kV, doc, pm, an, cdv, ct, osl, e, l, c, hd, hw⟩ := F.ex
  refine ⟨fd, He5.fun_of F, ?_⟩
  rcases hw with z | ⟨D, h1, h2⟩
  · exact absurd z hk
  · subst e
    exact ⟨D, h1, h2⟩
theorem lk_of {x qual : Str} {st : Stmt} {f : Addr} (F : ∃ fd, L2.FunD K x qual (defArgs st) (defBody st) (defScope st) [] [] f fd) : ∃ oc od kV doc pm an cdv ct osl, K.lookup f = some ⟨oc, od, .func (PySem.W.fnOf x qual (defArgs st) (defBody st) (defScope st) .none kV doc pm an cdv ct), osl⟩ ∧ PySem.W.codeIn K cdv qual = true := by
  obtain ⟨fd, F⟩ := F
  obtain ⟨oc, od, kV, doc, pm, an, cdv, ct, osl, rfl, l, c⟩ := (He5.fun_of F).ex
  exact ⟨oc, od, kV, doc, pm, an, cdv, ct, osl, l, c⟩
end
/-! ### the run's equation by pieces: one kernel run each -/
def KofS (n : Nat) (s : PySem.W.SharedT) : PySem.W.Frag := He.frG (HandSHeadRun.getT s) (asX (HandSHeadRun.getT s) n)
def obsN (fn : List He5.DefA) (K : PySem.W.Frag) : He.AlD := (fn.all fun d => d.ok K, fn.map fun d => He5.fnA K (d.at_ K))
section
open PySem.W HandSHeadRun
def Pc (r : OpenRow) (M : Nat) (w : World) {β : Type} (f : SharedT → β) (b : β) : Prop := ∀ os : OsState, (endF (stepQ (denQ tabQ) r.prog w) M r.prog w os).map f = some b
theorem run_join {r : OpenRow} {q : Program} {M n : Nat} {loose : List PySem.Str} {w : World} {fas : List (List Fc)} {fn : List He5.DefA}
    (h0 : Pc r M w (fun s => (looksF r.prog (boot_heap w.params) s.abs, seenQ q loose (importedModules r.prog.main.body) (fun s => xlAt q [] s && recOk r.toRowW.records s) s.abs)) (true, openGood q loose))
    (h1 : ∀ l ∈ fas, Pc r M w (fun s => l.all fun f => f (KofS n s)) true) (h2 : Pc r M w (fun s => obsN fn (KofS n s)) (He5.valA fn)) :
    RunEq r q (hookH n fas fn) (fun s => obsHG n fas fn (getT s)) M loose w := by
  intro os
  have a0 := h0 os
  have a2 := h2 os
  have a1 := fun l hl => h1 l hl os
  generalize endF (stepQ (denQ tabQ) r.prog w) M r.prog w os = o at a0 a1 a2 ⊢
  cases o with
  | none => cases a0
  | some s =>
    have b0 : (looksF r.prog (boot_heap w.params) s.abs, seenQ q loose (importedModules r.prog.main.body) (fun s => xlAt q [] s && recOk r.toRowW.records s) s.abs) = (true, openGood q loose) := Option.some.inj a0
    have b2 : obsN fn (KofS n s) = He5.valA fn := Option.some.inj a2
    have b1 : allF fas (KofS n s) = true := List.all_eq_true.mpr fun l hl => Option.some.inj (a1 l hl)
    have c1 : (fn.all fun d => d.ok (KofS n s)) = true := congrArg (fun z : He.AlD => z.1) b2
    have c2 : (fn.map fun d => He5.fnA (KofS n s) (d.at_ (KofS n s))) = fn.map He5.DefA.val := congrArg (fun z : He.AlD => z.2) b2
    have d : obsHG n fas fn (getT s) = He5.valA fn := by
      show (allF fas (KofS n s) && fn.all fun d => d.ok (KofS n s), fn.map fun d => He5.fnA (KofS n s) (d.at_ (KofS n s))) = _
      rw [b1, c1, c2]
      rfl
    show some (looksF r.prog (boot_heap w.params) s.abs, seenQ q loose (importedModules r.prog.main.body) (fun s => xlAt q [] s && recOk r.toRowW.records s) s.abs, obsHG n fas fn (getT s)) = some (true, openGood q loose, He5.valA fn)
    rw [d]
    obtain ⟨e1, e2⟩ := Prod.mk.inj b0
    rw [e1, e2]
end
/-! ### tests of an error class, of a constant -/
def xcB (K : PySem.W.Frag) (C : Addr) : Bool := match K.lookup C with
  | some ⟨.type "type", _, .cls cd, sl⟩ => (match cd.mro, sl.toList with
    | .ref C' :: bm, [_, _, _, _, some (.builtin n), _] => C' == C && n == "ValueError.__new__" && !cd.hasDel && cd.hasDict && PySem.HandSPX.refsVE bm
    | _, _ => false)
  | _ => false
theorem xcB_ok {K : PySem.W.Frag} {C : Addr} (q : xcB K C = true) : ∃ nm qn N bs bm sn sub ab col dd k0 k1 k2 k3 k5, K.lookup C = some (excClassObj nm qn C N bs bm true sn sub ab col dd k0 k1 k2 k3 k5 "ValueError.__new__") ∧ PySem.HandSPX.refsVE bm = true := by
  unfold xcB at q
  split at q
  · rename_i dd cd sl ho
    split at q
    · rename_i C' bm k0 k1 k2 k3 n k5 hm hs
      simp only [Bool.and_eq_true, beq_iff_eq, Bool.not_eq_true'] at q
      obtain ⟨⟨⟨⟨rfl, rfl⟩, hdel⟩, hd'⟩, ht⟩ := q
      obtain ⟨nm, bs, mro, ns, qn, hd, sn, sub, ab, col, del⟩ := cd
      dsimp only at hm hdel hd'
      subst hm hdel hd'
      have hsl : sl = #[k0, k1, k2, k3, some (.builtin "ValueError.__new__"), k5] := by
        obtain ⟨l⟩ := sl
        simp only at hs
        rw [hs]
      subst hsl
      exact ⟨nm, qn, ns, bs, bm, sn, sub, ab, col, dd, k0, k1, k2, k3, k5, ho, ht⟩
    · cases q
  · cases q
def intB (K : PySem.W.Frag) (x : Str) (i : Int) : Bool := match PySem.W.nsIn K mainGlobals x with
  | some (some (.int j _)) => decide (j = i)
  | _ => false
theorem intB_ok {K : PySem.W.Frag} {x : Str} {i : Int} (h : intB K x i = true) : ∃ t, PySem.W.nsIn K mainGlobals x = some (some (.int i t)) := by
  unfold intB at h
  split at h
  · rename_i j t e
    rw [of_decide_eq_true h] at e
    exact ⟨t, e⟩
  · cases h
def strB (K : PySem.W.Frag) (x z : Str) : Bool := match PySem.W.nsIn K mainGlobals x with
  | some (some (.str y _)) => decide (y = z)
  | _ => false
theorem strB_ok {K : PySem.W.Frag} {x z : Str} (h : strB K x z = true) : ∃ t, PySem.W.nsIn K mainGlobals x = some (some (.str z t)) := by
  unfold strB at h
  split at h
  · rename_i j t e
    rw [of_decide_eq_true h] at e
    exact ⟨t, e⟩
  · cases h
def obB (a : Option Bool) (b : Bool) : Bool := match a with
  | some c => c == b
  | none => false
theorem obB_ok {a : Option Bool} {b : Bool} (h : obB a b = true) : a = some b := by
  unfold obB at h
  split at h
  · rw [eq_of_beq h]
  · cases h
def tyB (a : Option Value) (s : String) : Bool := match a with
  | some (.type t) => decide (t = s)
  | _ => false
theorem tyB_ok {a : Option Value} {s : String} (h : tyB a s = true) : a = some (.type s) := by
  unfold tyB at h
  split at h
  · rw [of_decide_eq_true h]
  · cases h
/-! ### the ends -/
theorem walkH {l : PySem.W.OpenLaw} {n k : Nat} {q : Program} {loose : List Str} {XP : (Str → Option Value) → Heap → Prop} {YP : World → Heap → Prop} {d : DefRec} {x : Str} {sp : World → PySem.W.Frag → Sp} {S : PySem.W.Frag → Prop}
    (most : l.most = some n) (hn : n ≤ sizeLine) (nodef : d.params.defaults = []) (room : Room k callerA) (inK : ∀ (w : World) (h : Heap), YP w h → ∃ K : PySem.W.Frag, K.In h ∧ S K)
    (F : ∀ (w : World) (mg : Str → Option Value) (fa : Addr) (h : Heap) (K : PySem.W.Frag), K.In h → S K → h.Ns mainGlobals mg → mg d.name = some (.ref fa) →
      ∃ fd : FuncData, (∀ (s : Shared) (u : Value), BindsTo s fd ⟨[u], []⟩ [(x, u)]) ∧ ∀ bs : Heap, K.In bs → bs.Ns mainGlobals mg → FnOk l.prog w K mg bs CX0 k fa fd [x] (sp w K))
    (said : ∀ (w : World) (K : PySem.W.Frag) (H : Hp) (a : Addr) (ns : List Int), ns.length ≤ n → L2.Only H → SqL K H a (ns.map V.int) → sp w K [.ref a] H (fun v _ => v = .bl true) fun _ _ _ => False) :
    PySem.W.WalkO q loose XP YP l.row.toRowW d [] (fun f vs => PySem.call f vs) := by
  refine L2.walk_ofE (n := n) (k := k) (x := x) (CX := CX0) most hn nodef room ?_ (fun _ _ _ _ z => z)
  intro w mg fa h Y G hmg
  obtain ⟨K, KX, c⟩ := inK w h Y
  obtain ⟨fd, hb, hF⟩ := F w mg fa h K KX c G hmg
  exact ⟨K, fd, sp w K, KX, hb, fun H a ns hl hO hS => said w K H a ns hl hO hS, hF⟩
theorem walkHG {l : PySem.W.OpenLaw} {n k : Nat} {q : Program} {loose : List Str} {XP : (Str → Option Value) → Heap → Prop} {YP : World → Heap → Prop} {d : DefRec} {x : Str} {sp : World → PySem.W.Frag → Sp} {S : PySem.W.Frag → Prop}
    (most : l.most = some n) (hn : n ≤ sizeLine) (nodef : d.params.defaults = []) (room : Room k callerA) (inK : ∀ (w : World) (h : Heap), YP w h → ∃ K : PySem.W.Frag, K.In h ∧ S K)
    (F : ∀ (w : World) (mg : Str → Option Value) (fa : Addr) (h : Heap) (K : PySem.W.Frag), K.In h → S K → h.Ns mainGlobals mg → mg d.name = some (.ref fa) →
      ∃ fd : FuncData, (∀ (s : Shared) (u : Value), BindsTo s fd ⟨[u], []⟩ [(x, u)]) ∧ ∀ bs : Heap, K.In bs → bs.Ns mainGlobals mg → FnG l.prog w K mg bs CX0 k fa fd [x] (sp w K))
    (said : ∀ (w : World) (K : PySem.W.Frag) (H : Hp) (a : Addr) (ns : List Int), ns.length ≤ n → L2.Only H → SqL K H a (ns.map V.int) → sp w K [.ref a] H (fun v _ => v = .bl true) fun _ _ _ => False) :
    PySem.W.WalkO q loose XP YP l.row.toRowW d [] (fun f vs => PySem.call f vs) := by
  refine Att.attach_call most nodef ?_
  intro w s0 s1 mg mb fa o pm cd doc a vs ns G Y ho hd hcd hmg hobj hints hlen hg
  obtain ⟨K, KX, c⟩ := inK w _ Y
  obtain ⟨fd, hb, hF⟩ := F w mg fa _ K KX c G.T.g hmg
  exact law_goG KX G.T.g G.T.b G.T.builtins G.T.nolimit hg hobj hints (Nat.le_trans hlen hn) room hF hb fun H hO hS => said w K H a ns hlen hO hS
end Ver
namespace Ver
open PySem PySem.Spec PyProof.Rows L2 Evl
theorem at_mk {K : PySem.W.Frag} {h : Heap} {mg : Str → Option Value} {x : Str} {st : Stmt} {f : Addr} {oc : Value} {od an : Option Addr} {osl : Array (Option Value)} {kV doc pm cdv ct : Value} (X : K.In h) (G : h.Ns mainGlobals mg)
    (a : PySem.W.nsIn K mainGlobals x = some (some (.ref f))) (l : K.lookup f = some ⟨oc, od, .func (PySem.W.fnOf x x (defArgs st) (defBody st) (defScope st) .none kV doc pm an cdv ct), osl⟩) (c : PySem.W.codeIn K cdv x = true) (k : PySem.W.keepIn K (.ref f) = true) : At K mg x st :=
  ⟨⟨f, _, fun_mk l c k, PySem.W.mg_of X G a⟩⟩
theorem all_mk {l : PySem.W.OpenLaw} {w : World} {K : PySem.W.Frag} {h : Heap} {mg : Str → Option Value} {fa : Addr} (X : K.In h) (G : h.Ns mainGlobals mg) (hfa : mg "law" = some (.ref fa))
    {f0 : Addr} {od0 an0 : Option Addr} {sl0 : Array (Option Value)} {oc0 kV0 dc0 pm0 cd0 ct0 : Value}
    {f1 : Addr} {od1 an1 : Option Addr} {sl1 : Array (Option Value)} {oc1 kV1 dc1 pm1 cd1 ct1 : Value}
    {f2 : Addr} {od2 an2 : Option Addr} {sl2 : Array (Option Value)} {oc2 kV2 dc2 pm2 cd2 ct2 : Value}
    {f3 : Addr} {od3 an3 : Option Addr} {sl3 : Array (Option Value)} {oc3 kV3 dc3 pm3 cd3 ct3 : Value}
    {f4 : Addr} {od4 an4 : Option Addr} {sl4 : Array (Option Value)} {oc4 kV4 dc4 pm4 cd4 ct4 : Value}
    {f5 : Addr} {od5 an5 : Option Addr} {sl5 : Array (Option Value)} {oc5 kV5 dc5 pm5 cd5 ct5 : Value}
    {f6 : Addr} {od6 an6 : Option Addr} {sl6 : Array (Option Value)} {oc6 kV6 dc6 pm6 cd6 ct6 : Value}
    {f7 : Addr} {od7 an7 : Option Addr} {sl7 : Array (Option Value)} {oc7 kV7 dc7 pm7 cd7 ct7 : Value}
    {f8 : Addr} {od8 an8 : Option Addr} {sl8 : Array (Option Value)} {oc8 kV8 dc8 pm8 cd8 ct8 : Value}
    {f9 : Addr} {od9 an9 : Option Addr} {sl9 : Array (Option Value)} {oc9 kV9 dc9 pm9 cd9 ct9 : Value}
    {f10 : Addr} {od10 an10 : Option Addr} {sl10 : Array (Option Value)} {oc10 kV10 dc10 pm10 cd10 ct10 : Value}
    {f11 : Addr} {od11 an11 : Option Addr} {sl11 : Array (Option Value)} {oc11 kV11 dc11 pm11 cd11 ct11 : Value}
    {f12 : Addr} {od12 an12 : Option Addr} {sl12 : Array (Option Value)} {oc12 kV12 dc12 pm12 cd12 ct12 : Value}
    {f13 : Addr} {od13 an13 : Option Addr} {sl13 : Array (Option Value)} {oc13 kV13 dc13 pm13 cd13 ct13 : Value}
    {f14 : Addr} {od14 an14 : Option Addr} {sl14 : Array (Option Value)} {oc14 kV14 dc14 pm14 cd14 ct14 : Value}
    {f15 : Addr} {od15 an15 : Option Addr} {sl15 : Array (Option Value)} {oc15 kV15 dc15 pm15 cd15 ct15 : Value}
    {f16 : Addr} {od16 an16 : Option Addr} {sl16 : Array (Option Value)} {oc16 kV16 dc16 pm16 cd16 ct16 : Value}
    {f17 : Addr} {od17 an17 : Option Addr} {sl17 : Array (Option Value)} {oc17 kV17 dc17 pm17 cd17 ct17 : Value}
    {f18 : Addr} {od18 an18 : Option Addr} {sl18 : Array (Option Value)} {oc18 kV18 dc18 pm18 cd18 ct18 : Value}
    {f19 : Addr} {od19 an19 : Option Addr} {sl19 : Array (Option Value)} {oc19 kV19 dc19 pm19 cd19 ct19 : Value}
    {f20 : Addr} {od20 an20 : Option Addr} {sl20 : Array (Option Value)} {oc20 kV20 dc20 pm20 cd20 ct20 : Value}
    {f21 : Addr} {od21 an21 : Option Addr} {sl21 : Array (Option Value)} {oc21 kV21 dc21 pm21 cd21 ct21 : Value}
    {f22 : Addr} {od22 an22 : Option Addr} {sl22 : Array (Option Value)} {oc22 kV22 dc22 pm22 cd22 ct22 : Value}
    {f23 : Addr} {od23 an23 : Option Addr} {sl23 : Array (Option Value)} {oc23 kV23 dc23 pm23 cd23 ct23 : Value}
    {f24 : Addr} {od24 an24 : Option Addr} {sl24 : Array (Option Value)} {oc24 kV24 dc24 pm24 cd24 ct24 : Value}
    {f25 : Addr} {od25 an25 : Option Addr} {sl25 : Array (Option Value)} {oc25 kV25 dc25 pm25 cd25 ct25 : Value}
    {f26 : Addr} {od26 an26 : Option Addr} {sl26 : Array (Option Value)} {oc26 kV26 dc26 pm26 cd26 ct26 : Value}
    {f27 : Addr} {od27 an27 : Option Addr} {sl27 : Array (Option Value)} {oc27 kV27 dc27 pm27 cd27 ct27 : Value}
    {f28 : Addr} {od28 an28 : Option Addr} {sl28 : Array (Option Value)} {oc28 kV28 dc28 pm28 cd28 ct28 : Value}
    {f29 : Addr} {od29 an29 : Option Addr} {sl29 : Array (Option Value)} {oc29 kV29 dc29 pm29 cd29 ct29 : Value}
    {f30 : Addr} {od30 an30 : Option Addr} {sl30 : Array (Option Value)} {oc30 kV30 dc30 pm30 cd30 ct30 : Value}
    {f31 : Addr} {od31 an31 : Option Addr} {sl31 : Array (Option Value)} {oc31 kV31 dc31 pm31 cd31 ct31 : Value}
    {f32 : Addr} {od32 an32 : Option Addr} {sl32 : Array (Option Value)} {oc32 kV32 dc32 pm32 cd32 ct32 : Value}
    {f33 : Addr} {od33 an33 : Option Addr} {sl33 : Array (Option Value)} {oc33 kV33 dc33 pm33 cd33 ct33 : Value}
    {f34 : Addr} {od34 an34 : Option Addr} {sl34 : Array (Option Value)} {oc34 kV34 dc34 pm34 cd34 ct34 : Value}
    {f35 : Addr} {od35 an35 : Option Addr} {sl35 : Array (Option Value)} {oc35 kV35 dc35 pm35 cd35 ct35 : Value}
    {f36 : Addr} {od36 an36 : Option Addr} {sl36 : Array (Option Value)} {oc36 kV36 dc36 pm36 cd36 ct36 : Value}
    {f37 : Addr} {od37 an37 : Option Addr} {sl37 : Array (Option Value)} {oc37 kV37 dc37 pm37 cd37 ct37 : Value}
    {f38 : Addr} {od38 an38 : Option Addr} {sl38 : Array (Option Value)} {oc38 kV38 dc38 pm38 cd38 ct38 : Value}
    {f39 : Addr} {od39 an39 : Option Addr} {sl39 : Array (Option Value)} {oc39 kV39 dc39 pm39 cd39 ct39 : Value}
    {f40 : Addr} {od40 an40 : Option Addr} {sl40 : Array (Option Value)} {oc40 kV40 dc40 pm40 cd40 ct40 : Value}
    {f41 : Addr} {od41 an41 : Option Addr} {sl41 : Array (Option Value)} {oc41 kV41 dc41 pm41 cd41 ct41 : Value}
    {f42 : Addr} {od42 an42 : Option Addr} {sl42 : Array (Option Value)} {oc42 kV42 dc42 pm42 cd42 ct42 : Value}
    {f43 : Addr} {od43 an43 : Option Addr} {sl43 : Array (Option Value)} {oc43 kV43 dc43 pm43 cd43 ct43 : Value}
    {f44 : Addr} {od44 an44 : Option Addr} {sl44 : Array (Option Value)} {oc44 kV44 dc44 pm44 cd44 ct44 : Value}
    {f45 : Addr} {od45 an45 : Option Addr} {sl45 : Array (Option Value)} {oc45 kV45 dc45 pm45 cd45 ct45 : Value}
    {f46 : Addr} {od46 an46 : Option Addr} {sl46 : Array (Option Value)} {oc46 kV46 dc46 pm46 cd46 ct46 : Value}
    {f47 : Addr} {od47 an47 : Option Addr} {sl47 : Array (Option Value)} {oc47 kV47 dc47 pm47 cd47 ct47 : Value}
    {f48 : Addr}
    {f49 : Addr} {od49 an49 : Option Addr} {sl49 : Array (Option Value)} {oc49 kV49 dc49 pm49 cd49 ct49 : Value}
    {C_Machine : Addr}
    {t_LETTERS : Tok}
    {t_MOST_LETTERS : Tok}
    (a0 : PySem.W.nsIn K mainGlobals "is_alphabet" = some (some (.ref f0)))
    (l0 : K.lookup f0 = some ⟨oc0, od0, .func (PySem.W.fnOf "is_alphabet" "is_alphabet" (defArgs s_is_alphabet) (defBody s_is_alphabet) (defScope s_is_alphabet) .none kV0 dc0 pm0 an0 cd0 ct0), sl0⟩)
    (c0 : PySem.W.codeIn K cd0 "is_alphabet" = true) (k0 : PySem.W.keepIn K (.ref f0) = true)
    (a1 : PySem.W.nsIn K mainGlobals "check_alphabet" = some (some (.ref f1)))
    (l1 : K.lookup f1 = some ⟨oc1, od1, .func (PySem.W.fnOf "check_alphabet" "check_alphabet" (defArgs s_check_alphabet) (defBody s_check_alphabet) (defScope s_check_alphabet) .none kV1 dc1 pm1 an1 cd1 ct1), sl1⟩)
    (c1 : PySem.W.codeIn K cd1 "check_alphabet" = true) (k1 : PySem.W.keepIn K (.ref f1) = true)
    (a2 : PySem.W.nsIn K mainGlobals "check_text" = some (some (.ref f2)))
    (l2 : K.lookup f2 = some ⟨oc2, od2, .func (PySem.W.fnOf "check_text" "check_text" (defArgs s_check_text) (defBody s_check_text) (defScope s_check_text) .none kV2 dc2 pm2 an2 cd2 ct2), sl2⟩)
    (c2 : PySem.W.codeIn K cd2 "check_text" = true) (k2 : PySem.W.keepIn K (.ref f2) = true)
    (a3 : PySem.W.nsIn K mainGlobals "check_same_alphabet" = some (some (.ref f3)))
    (l3 : K.lookup f3 = some ⟨oc3, od3, .func (PySem.W.fnOf "check_same_alphabet" "check_same_alphabet" (defArgs s_check_same_alphabet) (defBody s_check_same_alphabet) (defScope s_check_same_alphabet) .none kV3 dc3 pm3 an3 cd3 ct3), sl3⟩)
    (c3 : PySem.W.codeIn K cd3 "check_same_alphabet" = true) (k3 : PySem.W.keepIn K (.ref f3) = true)
    (a4 : PySem.W.nsIn K mainGlobals "is_whole" = some (some (.ref f4)))
    (l4 : K.lookup f4 = some ⟨oc4, od4, .func (PySem.W.fnOf "is_whole" "is_whole" (defArgs s_is_whole) (defBody s_is_whole) (defScope s_is_whole) .none kV4 dc4 pm4 an4 cd4 ct4), sl4⟩)
    (c4 : PySem.W.codeIn K cd4 "is_whole" = true) (k4 : PySem.W.keepIn K (.ref f4) = true)
    (a5 : PySem.W.nsIn K mainGlobals "is_number_below" = some (some (.ref f5)))
    (l5 : K.lookup f5 = some ⟨oc5, od5, .func (PySem.W.fnOf "is_number_below" "is_number_below" (defArgs s_is_number_below) (defBody s_is_number_below) (defScope s_is_number_below) .none kV5 dc5 pm5 an5 cd5 ct5), sl5⟩)
    (c5 : PySem.W.codeIn K cd5 "is_number_below" = true) (k5 : PySem.W.keepIn K (.ref f5) = true)
    (a6 : PySem.W.nsIn K mainGlobals "is_bits" = some (some (.ref f6)))
    (l6 : K.lookup f6 = some ⟨oc6, od6, .func (PySem.W.fnOf "is_bits" "is_bits" (defArgs s_is_bits) (defBody s_is_bits) (defScope s_is_bits) .none kV6 dc6 pm6 an6 cd6 ct6), sl6⟩)
    (c6 : PySem.W.codeIn K cd6 "is_bits" = true) (k6 : PySem.W.keepIn K (.ref f6) = true)
    (a7 : PySem.W.nsIn K mainGlobals "as_tuples" = some (some (.ref f7)))
    (l7 : K.lookup f7 = some ⟨oc7, od7, .func (PySem.W.fnOf "as_tuples" "as_tuples" (defArgs s_as_tuples) (defBody s_as_tuples) (defScope s_as_tuples) .none kV7 dc7 pm7 an7 cd7 ct7), sl7⟩)
    (c7 : PySem.W.codeIn K cd7 "as_tuples" = true) (k7 : PySem.W.keepIn K (.ref f7) = true)
    (a8 : PySem.W.nsIn K mainGlobals "first_of_classes" = some (some (.ref f8)))
    (l8 : K.lookup f8 = some ⟨oc8, od8, .func (PySem.W.fnOf "first_of_classes" "first_of_classes" (defArgs s_first_of_classes) (defBody s_first_of_classes) (defScope s_first_of_classes) .none kV8 dc8 pm8 an8 cd8 ct8), sl8⟩)
    (c8 : PySem.W.codeIn K cd8 "first_of_classes" = true) (k8 : PySem.W.keepIn K (.ref f8) = true)
    (a9 : PySem.W.nsIn K mainGlobals "reached_in" = some (some (.ref f9)))
    (l9 : K.lookup f9 = some ⟨oc9, od9, .func (PySem.W.fnOf "reached_in" "reached_in" (defArgs s_reached_in) (defBody s_reached_in) (defScope s_reached_in) .none kV9 dc9 pm9 an9 cd9 ct9), sl9⟩)
    (c9 : PySem.W.codeIn K cd9 "reached_in" = true) (k9 : PySem.W.keepIn K (.ref f9) = true)
    (a10 : PySem.W.nsIn K mainGlobals "width" = some (some (.ref f10)))
    (l10 : K.lookup f10 = some ⟨oc10, od10, .func (PySem.W.fnOf "width" "width" (defArgs s_width) (defBody s_width) (defScope s_width) .none kV10 dc10 pm10 an10 cd10 ct10), sl10⟩)
    (c10 : PySem.W.codeIn K cd10 "width" = true) (k10 : PySem.W.keepIn K (.ref f10) = true)
    (a11 : PySem.W.nsIn K mainGlobals "number_bits" = some (some (.ref f11)))
    (l11 : K.lookup f11 = some ⟨oc11, od11, .func (PySem.W.fnOf "number_bits" "number_bits" (defArgs s_number_bits) (defBody s_number_bits) (defScope s_number_bits) .none kV11 dc11 pm11 an11 cd11 ct11), sl11⟩)
    (c11 : PySem.W.codeIn K cd11 "number_bits" = true) (k11 : PySem.W.keepIn K (.ref f11) = true)
    (a12 : PySem.W.nsIn K mainGlobals "index_words" = some (some (.ref f12)))
    (l12 : K.lookup f12 = some ⟨oc12, od12, .func (PySem.W.fnOf "index_words" "index_words" (defArgs s_index_words) (defBody s_index_words) (defScope s_index_words) .none kV12 dc12 pm12 an12 cd12 ct12), sl12⟩)
    (c12 : PySem.W.codeIn K cd12 "index_words" = true) (k12 : PySem.W.keepIn K (.ref f12) = true)
    (a13 : PySem.W.nsIn K mainGlobals "check_rules" = some (some (.ref f13)))
    (l13 : K.lookup f13 = some ⟨oc13, od13, .func (PySem.W.fnOf "check_rules" "check_rules" (defArgs s_check_rules) (defBody s_check_rules) (defScope s_check_rules) .none kV13 dc13 pm13 an13 cd13 ct13), sl13⟩)
    (c13 : PySem.W.codeIn K cd13 "check_rules" = true) (k13 : PySem.W.keepIn K (.ref f13) = true)
    (a14 : PySem.W.nsIn K mainGlobals "check_row_lengths" = some (some (.ref f14)))
    (l14 : K.lookup f14 = some ⟨oc14, od14, .func (PySem.W.fnOf "check_row_lengths" "check_row_lengths" (defArgs s_check_row_lengths) (defBody s_check_row_lengths) (defScope s_check_row_lengths) .none kV14 dc14 pm14 an14 cd14 ct14), sl14⟩)
    (c14 : PySem.W.codeIn K cd14 "check_row_lengths" = true) (k14 : PySem.W.keepIn K (.ref f14) = true)
    (a15 : PySem.W.nsIn K mainGlobals "nexts_of" = some (some (.ref f15)))
    (l15 : K.lookup f15 = some ⟨oc15, od15, .func (PySem.W.fnOf "nexts_of" "nexts_of" (defArgs s_nexts_of) (defBody s_nexts_of) (defScope s_nexts_of) .none kV15 dc15 pm15 an15 cd15 ct15), sl15⟩)
    (c15 : PySem.W.codeIn K cd15 "nexts_of" = true) (k15 : PySem.W.keepIn K (.ref f15) = true)
    (a16 : PySem.W.nsIn K mainGlobals "written_by" = some (some (.ref f16)))
    (l16 : K.lookup f16 = some ⟨oc16, od16, .func (PySem.W.fnOf "written_by" "written_by" (defArgs s_written_by) (defBody s_written_by) (defScope s_written_by) .none kV16 dc16 pm16 an16 cd16 ct16), sl16⟩)
    (c16 : PySem.W.codeIn K cd16 "written_by" = true) (k16 : PySem.W.keepIn K (.ref f16) = true)
    (a17 : PySem.W.nsIn K mainGlobals "is_lead_loop" = some (some (.ref f17)))
    (l17 : K.lookup f17 = some ⟨oc17, od17, .func (PySem.W.fnOf "is_lead_loop" "is_lead_loop" (defArgs s_is_lead_loop) (defBody s_is_lead_loop) (defScope s_is_lead_loop) .none kV17 dc17 pm17 an17 cd17 ct17), sl17⟩)
    (c17 : PySem.W.codeIn K cd17 "is_lead_loop" = true) (k17 : PySem.W.keepIn K (.ref f17) = true)
    (a18 : PySem.W.nsIn K mainGlobals "_law_whole" = some (some (.ref f18)))
    (l18 : K.lookup f18 = some ⟨oc18, od18, .func (PySem.W.fnOf "_law_whole" "_law_whole" (defArgs s__law_whole) (defBody s__law_whole) (defScope s__law_whole) .none kV18 dc18 pm18 an18 cd18 ct18), sl18⟩)
    (c18 : PySem.W.codeIn K cd18 "_law_whole" = true) (k18 : PySem.W.keepIn K (.ref f18) = true)
    (a19 : PySem.W.nsIn K mainGlobals "_law_cell" = some (some (.ref f19)))
    (l19 : K.lookup f19 = some ⟨oc19, od19, .func (PySem.W.fnOf "_law_cell" "_law_cell" (defArgs s__law_cell) (defBody s__law_cell) (defScope s__law_cell) .none kV19 dc19 pm19 an19 cd19 ct19), sl19⟩)
    (c19 : PySem.W.codeIn K cd19 "_law_cell" = true) (k19 : PySem.W.keepIn K (.ref f19) = true)
    (a20 : PySem.W.nsIn K mainGlobals "_law_digits" = some (some (.ref f20)))
    (l20 : K.lookup f20 = some ⟨oc20, od20, .func (PySem.W.fnOf "_law_digits" "_law_digits" (defArgs s__law_digits) (defBody s__law_digits) (defScope s__law_digits) .none kV20 dc20 pm20 an20 cd20 ct20), sl20⟩)
    (c20 : PySem.W.codeIn K cd20 "_law_digits" = true) (k20 : PySem.W.keepIn K (.ref f20) = true)
    (a21 : PySem.W.nsIn K mainGlobals "_law_alphabet" = some (some (.ref f21)))
    (l21 : K.lookup f21 = some ⟨oc21, od21, .func (PySem.W.fnOf "_law_alphabet" "_law_alphabet" (defArgs s__law_alphabet) (defBody s__law_alphabet) (defScope s__law_alphabet) .none kV21 dc21 pm21 an21 cd21 ct21), sl21⟩)
    (c21 : PySem.W.codeIn K cd21 "_law_alphabet" = true) (k21 : PySem.W.keepIn K (.ref f21) = true)
    (a22 : PySem.W.nsIn K mainGlobals "_law_other_alphabet" = some (some (.ref f22)))
    (l22 : K.lookup f22 = some ⟨oc22, od22, .func (PySem.W.fnOf "_law_other_alphabet" "_law_other_alphabet" (defArgs s__law_other_alphabet) (defBody s__law_other_alphabet) (defScope s__law_other_alphabet) .none kV22 dc22 pm22 an22 cd22 ct22), sl22⟩)
    (c22 : PySem.W.codeIn K cd22 "_law_other_alphabet" = true) (k22 : PySem.W.keepIn K (.ref f22) = true)
    (a23 : PySem.W.nsIn K mainGlobals "_law_width" = some (some (.ref f23)))
    (l23 : K.lookup f23 = some ⟨oc23, od23, .func (PySem.W.fnOf "_law_width" "_law_width" (defArgs s__law_width) (defBody s__law_width) (defScope s__law_width) .none kV23 dc23 pm23 an23 cd23 ct23), sl23⟩)
    (c23 : PySem.W.codeIn K cd23 "_law_width" = true) (k23 : PySem.W.keepIn K (.ref f23) = true)
    (a24 : PySem.W.nsIn K mainGlobals "_law_number" = some (some (.ref f24)))
    (l24 : K.lookup f24 = some ⟨oc24, od24, .func (PySem.W.fnOf "_law_number" "_law_number" (defArgs s__law_number) (defBody s__law_number) (defScope s__law_number) .none kV24 dc24 pm24 an24 cd24 ct24), sl24⟩)
    (c24 : PySem.W.codeIn K cd24 "_law_number" = true) (k24 : PySem.W.keepIn K (.ref f24) = true)
    (a25 : PySem.W.nsIn K mainGlobals "_law_code" = some (some (.ref f25)))
    (l25 : K.lookup f25 = some ⟨oc25, od25, .func (PySem.W.fnOf "_law_code" "_law_code" (defArgs s__law_code) (defBody s__law_code) (defScope s__law_code) .none kV25 dc25 pm25 an25 cd25 ct25), sl25⟩)
    (c25 : PySem.W.codeIn K cd25 "_law_code" = true) (k25 : PySem.W.keepIn K (.ref f25) = true)
    (a26 : PySem.W.nsIn K mainGlobals "_law_ring_rules" = some (some (.ref f26)))
    (l26 : K.lookup f26 = some ⟨oc26, od26, .func (PySem.W.fnOf "_law_ring_rules" "_law_ring_rules" (defArgs s__law_ring_rules) (defBody s__law_ring_rules) (defScope s__law_ring_rules) .none kV26 dc26 pm26 an26 cd26 ct26), sl26⟩)
    (c26 : PySem.W.codeIn K cd26 "_law_ring_rules" = true) (k26 : PySem.W.keepIn K (.ref f26) = true)
    (a27 : PySem.W.nsIn K mainGlobals "_law_free_rules" = some (some (.ref f27)))
    (l27 : K.lookup f27 = some ⟨oc27, od27, .func (PySem.W.fnOf "_law_free_rules" "_law_free_rules" (defArgs s__law_free_rules) (defBody s__law_free_rules) (defScope s__law_free_rules) .none kV27 dc27 pm27 an27 cd27 ct27), sl27⟩)
    (c27 : PySem.W.codeIn K cd27 "_law_free_rules" = true) (k27 : PySem.W.keepIn K (.ref f27) = true)
    (a28 : PySem.W.nsIn K mainGlobals "_law_holding_rules" = some (some (.ref f28)))
    (l28 : K.lookup f28 = some ⟨oc28, od28, .func (PySem.W.fnOf "_law_holding_rules" "_law_holding_rules" (defArgs s__law_holding_rules) (defBody s__law_holding_rules) (defScope s__law_holding_rules) .none kV28 dc28 pm28 an28 cd28 ct28), sl28⟩)
    (c28 : PySem.W.codeIn K cd28 "_law_holding_rules" = true) (k28 : PySem.W.keepIn K (.ref f28) = true)
    (a29 : PySem.W.nsIn K mainGlobals "_law_grouped_rules" = some (some (.ref f29)))
    (l29 : K.lookup f29 = some ⟨oc29, od29, .func (PySem.W.fnOf "_law_grouped_rules" "_law_grouped_rules" (defArgs s__law_grouped_rules) (defBody s__law_grouped_rules) (defScope s__law_grouped_rules) .none kV29 dc29 pm29 an29 cd29 ct29), sl29⟩)
    (c29 : PySem.W.codeIn K cd29 "_law_grouped_rules" = true) (k29 : PySem.W.keepIn K (.ref f29) = true)
    (a30 : PySem.W.nsIn K mainGlobals "_law_some_rules" = some (some (.ref f30)))
    (l30 : K.lookup f30 = some ⟨oc30, od30, .func (PySem.W.fnOf "_law_some_rules" "_law_some_rules" (defArgs s__law_some_rules) (defBody s__law_some_rules) (defScope s__law_some_rules) .none kV30 dc30 pm30 an30 cd30 ct30), sl30⟩)
    (c30 : PySem.W.codeIn K cd30 "_law_some_rules" = true) (k30 : PySem.W.keepIn K (.ref f30) = true)
    (a31 : PySem.W.nsIn K mainGlobals "_law_bits" = some (some (.ref f31)))
    (l31 : K.lookup f31 = some ⟨oc31, od31, .func (PySem.W.fnOf "_law_bits" "_law_bits" (defArgs s__law_bits) (defBody s__law_bits) (defScope s__law_bits) .none kV31 dc31 pm31 an31 cd31 ct31), sl31⟩)
    (c31 : PySem.W.codeIn K cd31 "_law_bits" = true) (k31 : PySem.W.keepIn K (.ref f31) = true)
    (a32 : PySem.W.nsIn K mainGlobals "_law_balanced_rules" = some (some (.ref f32)))
    (l32 : K.lookup f32 = some ⟨oc32, od32, .func (PySem.W.fnOf "_law_balanced_rules" "_law_balanced_rules" (defArgs s__law_balanced_rules) (defBody s__law_balanced_rules) (defScope s__law_balanced_rules) .none kV32 dc32 pm32 an32 cd32 ct32), sl32⟩)
    (c32 : PySem.W.codeIn K cd32 "_law_balanced_rules" = true) (k32 : PySem.W.keepIn K (.ref f32) = true)
    (a33 : PySem.W.nsIn K mainGlobals "_law_burst_rules" = some (some (.ref f33)))
    (l33 : K.lookup f33 = some ⟨oc33, od33, .func (PySem.W.fnOf "_law_burst_rules" "_law_burst_rules" (defArgs s__law_burst_rules) (defBody s__law_burst_rules) (defScope s__law_burst_rules) .none kV33 dc33 pm33 an33 cd33 ct33), sl33⟩)
    (c33 : PySem.W.codeIn K cd33 "_law_burst_rules" = true) (k33 : PySem.W.keepIn K (.ref f33) = true)
    (a34 : PySem.W.nsIn K mainGlobals "_law_two_rules" = some (some (.ref f34)))
    (l34 : K.lookup f34 = some ⟨oc34, od34, .func (PySem.W.fnOf "_law_two_rules" "_law_two_rules" (defArgs s__law_two_rules) (defBody s__law_two_rules) (defScope s__law_two_rules) .none kV34 dc34 pm34 an34 cd34 ct34), sl34⟩)
    (c34 : PySem.W.codeIn K cd34 "_law_two_rules" = true) (k34 : PySem.W.keepIn K (.ref f34) = true)
    (a35 : PySem.W.nsIn K mainGlobals "_law_race" = some (some (.ref f35)))
    (l35 : K.lookup f35 = some ⟨oc35, od35, .func (PySem.W.fnOf "_law_race" "_law_race" (defArgs s__law_race) (defBody s__law_race) (defScope s__law_race) .none kV35 dc35 pm35 an35 cd35 ct35), sl35⟩)
    (c35 : PySem.W.codeIn K cd35 "_law_race" = true) (k35 : PySem.W.keepIn K (.ref f35) = true)
    (a36 : PySem.W.nsIn K mainGlobals "_law_slow_rules" = some (some (.ref f36)))
    (l36 : K.lookup f36 = some ⟨oc36, od36, .func (PySem.W.fnOf "_law_slow_rules" "_law_slow_rules" (defArgs s__law_slow_rules) (defBody s__law_slow_rules) (defScope s__law_slow_rules) .none kV36 dc36 pm36 an36 cd36 ct36), sl36⟩)
    (c36 : PySem.W.codeIn K cd36 "_law_slow_rules" = true) (k36 : PySem.W.keepIn K (.ref f36) = true)
    (a37 : PySem.W.nsIn K mainGlobals "_law_loop" = some (some (.ref f37)))
    (l37 : K.lookup f37 = some ⟨oc37, od37, .func (PySem.W.fnOf "_law_loop" "_law_loop" (defArgs s__law_loop) (defBody s__law_loop) (defScope s__law_loop) .none kV37 dc37 pm37 an37 cd37 ct37), sl37⟩)
    (c37 : PySem.W.codeIn K cd37 "_law_loop" = true) (k37 : PySem.W.keepIn K (.ref f37) = true)
    (a38 : PySem.W.nsIn K mainGlobals "_law_due" = some (some (.ref f38)))
    (l38 : K.lookup f38 = some ⟨oc38, od38, .func (PySem.W.fnOf "_law_due" "_law_due" (defArgs s__law_due) (defBody s__law_due) (defScope s__law_due) .none kV38 dc38 pm38 an38 cd38 ct38), sl38⟩)
    (c38 : PySem.W.codeIn K cd38 "_law_due" = true) (k38 : PySem.W.keepIn K (.ref f38) = true)
    (a39 : PySem.W.nsIn K mainGlobals "_law_cases" = some (some (.ref f39)))
    (l39 : K.lookup f39 = some ⟨oc39, od39, .func (PySem.W.fnOf "_law_cases" "_law_cases" (defArgs s__law_cases) (defBody s__law_cases) (defScope s__law_cases) .none kV39 dc39 pm39 an39 cd39 ct39), sl39⟩)
    (c39 : PySem.W.codeIn K cd39 "_law_cases" = true) (k39 : PySem.W.keepIn K (.ref f39) = true)
    (a40 : PySem.W.nsIn K mainGlobals "_law_told" = some (some (.ref f40)))
    (l40 : K.lookup f40 = some ⟨oc40, od40, .func (PySem.W.fnOf "_law_told" "_law_told" (defArgs s__law_told) (defBody s__law_told) (defScope s__law_told) .none kV40 dc40 pm40 an40 cd40 ct40), sl40⟩)
    (c40 : PySem.W.codeIn K cd40 "_law_told" = true) (k40 : PySem.W.keepIn K (.ref f40) = true)
    (a41 : PySem.W.nsIn K mainGlobals "_law_fits" = some (some (.ref f41)))
    (l41 : K.lookup f41 = some ⟨oc41, od41, .func (PySem.W.fnOf "_law_fits" "_law_fits" (defArgs s__law_fits) (defBody s__law_fits) (defScope s__law_fits) .none kV41 dc41 pm41 an41 cd41 ct41), sl41⟩)
    (c41 : PySem.W.codeIn K cd41 "_law_fits" = true) (k41 : PySem.W.keepIn K (.ref f41) = true)
    (a42 : PySem.W.nsIn K mainGlobals "_law_all_cases" = some (some (.ref f42)))
    (l42 : K.lookup f42 = some ⟨oc42, od42, .func (PySem.W.fnOf "_law_all_cases" "_law_all_cases" (defArgs s__law_all_cases) (defBody s__law_all_cases) (defScope s__law_all_cases) .none kV42 dc42 pm42 an42 cd42 ct42), sl42⟩)
    (c42 : PySem.W.codeIn K cd42 "_law_all_cases" = true) (k42 : PySem.W.keepIn K (.ref f42) = true)
    (a43 : PySem.W.nsIn K mainGlobals "_law_spoilt" = some (some (.ref f43)))
    (l43 : K.lookup f43 = some ⟨oc43, od43, .func (PySem.W.fnOf "_law_spoilt" "_law_spoilt" (defArgs s__law_spoilt) (defBody s__law_spoilt) (defScope s__law_spoilt) .none kV43 dc43 pm43 an43 cd43 ct43), sl43⟩)
    (c43 : PySem.W.codeIn K cd43 "_law_spoilt" = true) (k43 : PySem.W.keepIn K (.ref f43) = true)
    (a44 : PySem.W.nsIn K mainGlobals "_law_letters_fit" = some (some (.ref f44)))
    (l44 : K.lookup f44 = some ⟨oc44, od44, .func (PySem.W.fnOf "_law_letters_fit" "_law_letters_fit" (defArgs s__law_letters_fit) (defBody s__law_letters_fit) (defScope s__law_letters_fit) .none kV44 dc44 pm44 an44 cd44 ct44), sl44⟩)
    (c44 : PySem.W.codeIn K cd44 "_law_letters_fit" = true) (k44 : PySem.W.keepIn K (.ref f44) = true)
    (a45 : PySem.W.nsIn K mainGlobals "law" = some (some (.ref f45)))
    (l45 : K.lookup f45 = some ⟨oc45, od45, .func (PySem.W.fnOf "law" "law" (defArgs s_law) (defBody s_law) (defScope s_law) .none kV45 dc45 pm45 an45 cd45 ct45), sl45⟩)
    (c45 : PySem.W.codeIn K cd45 "law" = true) (k45 : PySem.W.keepIn K (.ref f45) = true)
    {C_PressError : Addr}
    {C_BadAlphabet : Addr}
    {C_BadLetter : Addr}
    {C_BadStanding : Addr}
    {C_BadRule : Addr}
    {C_AlphabetsDiffer : Addr}
    {fi_BadLetter : Addr} {nm_BadLetter q_BadLetter : Str} {N_BadLetter : Addr} {bs_BadLetter bm_BadLetter : List Value} {sn_BadLetter : List Str} {sub_BadLetter : List Value} {ab_BadLetter : Bool} {col_BadLetter : Option Bool} {dd_BadLetter : Option Addr} {m0_BadLetter m1_BadLetter m2_BadLetter m3_BadLetter m5_BadLetter : Option Value} {ocE_BadLetter kVE_BadLetter dcE_BadLetter pmE_BadLetter cdE_BadLetter ctE_BadLetter : Value} {odE_BadLetter anE_BadLetter : Option Addr} {slE_BadLetter : Array (Option Value)}
    {fi_AlphabetsDiffer : Addr} {nm_AlphabetsDiffer q_AlphabetsDiffer : Str} {N_AlphabetsDiffer : Addr} {bs_AlphabetsDiffer bm_AlphabetsDiffer : List Value} {sn_AlphabetsDiffer : List Str} {sub_AlphabetsDiffer : List Value} {ab_AlphabetsDiffer : Bool} {col_AlphabetsDiffer : Option Bool} {dd_AlphabetsDiffer : Option Addr} {m0_AlphabetsDiffer m1_AlphabetsDiffer m2_AlphabetsDiffer m3_AlphabetsDiffer m5_AlphabetsDiffer : Option Value} {ocE_AlphabetsDiffer kVE_AlphabetsDiffer dcE_AlphabetsDiffer pmE_AlphabetsDiffer cdE_AlphabetsDiffer ctE_AlphabetsDiffer : Value} {odE_AlphabetsDiffer anE_AlphabetsDiffer : Option Addr} {slE_AlphabetsDiffer : Array (Option Value)}
    (hn_get : PySem.W.specialIn K (.builtin "object.__class__") "__get__" = some (some (.builtin "getset_descriptor.__get__"))) (ht_get : PySem.W.takesIn K (.builtin "object.__class__") = some true)
    (aE_PressError : PySem.W.nsIn K mainGlobals "PressError" = some (some (.ref C_PressError)))
    (aE_BadAlphabet : PySem.W.nsIn K mainGlobals "BadAlphabet" = some (some (.ref C_BadAlphabet)))
    (aE_BadLetter : PySem.W.nsIn K mainGlobals "BadLetter" = some (some (.ref C_BadLetter)))
    (aE_BadStanding : PySem.W.nsIn K mainGlobals "BadStanding" = some (some (.ref C_BadStanding)))
    (aE_BadRule : PySem.W.nsIn K mainGlobals "BadRule" = some (some (.ref C_BadRule)))
    (aE_AlphabetsDiffer : PySem.W.nsIn K mainGlobals "AlphabetsDiffer" = some (some (.ref C_AlphabetsDiffer)))
    (ty_BadLetter : PySem.W.typeIn K (.ref C_BadLetter) = some (.type "type"))
    (kcE_BadLetter : PySem.W.keepIn K (.ref C_BadLetter) = true)
    (gaE_BadLetter : PySem.W.findIn K (.ref C_BadLetter) "__getattribute__" = some (some (.builtin "BaseException.__getattribute__")))
    (ggE_BadLetter : PySem.W.findIn K (.ref C_BadLetter) "__getattr__" = some none)
    (sbE_BadLetter : PySem.W.subIn K (.ref C_BadLetter) (.type "BaseException") = some true)
    (hdE_BadLetter : PySem.W.hasDictIn K C_BadLetter = true)
    (caE_BadLetter : PySem.W.findIn K (.ref C_BadLetter) "__class__" = some (some (.builtin "object.__class__")))
    (mrE_BadLetter : PySem.W.mroIn K C_BadLetter (.type "object") = some true)
    (xL_BadLetter : K.lookup C_BadLetter = some (excClassObj nm_BadLetter q_BadLetter C_BadLetter N_BadLetter bs_BadLetter bm_BadLetter true sn_BadLetter sub_BadLetter ab_BadLetter col_BadLetter dd_BadLetter m0_BadLetter m1_BadLetter m2_BadLetter m3_BadLetter m5_BadLetter "ValueError.__new__"))
    (hb_BadLetter : PySem.HandSPX.refsVE bm_BadLetter = true)
    (saE_BadLetter : PySem.W.findIn K (.ref C_BadLetter) "__setattr__" = some (some (.builtin "object.__setattr__")))
    (iE_BadLetter : PySem.W.findIn K (.ref C_BadLetter) "__init__" = some (some (.ref fi_BadLetter))) (tiE_BadLetter : PySem.W.typeIn K (.ref fi_BadLetter) = some (.type "function"))
    (lE_BadLetter : K.lookup fi_BadLetter = some ⟨ocE_BadLetter, odE_BadLetter, .func (PySem.W.fnOf "__init__" "BadLetter.__init__" (defArgs s_BadLetter___init__) (defBody s_BadLetter___init__) (defScope s_BadLetter___init__) .none kVE_BadLetter dcE_BadLetter pmE_BadLetter anE_BadLetter cdE_BadLetter ctE_BadLetter), slE_BadLetter⟩) (ccE_BadLetter : PySem.W.codeIn K cdE_BadLetter "BadLetter.__init__" = true) (kpE_BadLetter : PySem.W.keepIn K (.ref fi_BadLetter) = true)
    (nfE_BadLetter_index : PySem.W.findIn K (.ref C_BadLetter) "index" = some none)
    (kt_BadLetter_PressError : PySem.W.kitOne K (.ref C_BadLetter) (.ref C_PressError) = some true)
    (kt_BadLetter_BadAlphabet : PySem.W.kitOne K (.ref C_BadLetter) (.ref C_BadAlphabet) = some false)
    (kt_BadLetter_BadLetter : PySem.W.kitOne K (.ref C_BadLetter) (.ref C_BadLetter) = some true)
    (kt_BadLetter_BadStanding : PySem.W.kitOne K (.ref C_BadLetter) (.ref C_BadStanding) = some false)
    (kt_BadLetter_BadRule : PySem.W.kitOne K (.ref C_BadLetter) (.ref C_BadRule) = some false)
    (kt_BadLetter_AlphabetsDiffer : PySem.W.kitOne K (.ref C_BadLetter) (.ref C_AlphabetsDiffer) = some false)
    (kt_BadLetter_VE : PySem.W.kitOne K (.ref C_BadLetter) (.type "ValueError") = some true)
    (ex_BadLetter_PressError : PySem.W.exmOne K (.ref C_BadLetter) (.ref C_PressError) = some true)
    (ty_AlphabetsDiffer : PySem.W.typeIn K (.ref C_AlphabetsDiffer) = some (.type "type"))
    (kcE_AlphabetsDiffer : PySem.W.keepIn K (.ref C_AlphabetsDiffer) = true)
    (gaE_AlphabetsDiffer : PySem.W.findIn K (.ref C_AlphabetsDiffer) "__getattribute__" = some (some (.builtin "BaseException.__getattribute__")))
    (ggE_AlphabetsDiffer : PySem.W.findIn K (.ref C_AlphabetsDiffer) "__getattr__" = some none)
    (sbE_AlphabetsDiffer : PySem.W.subIn K (.ref C_AlphabetsDiffer) (.type "BaseException") = some true)
    (hdE_AlphabetsDiffer : PySem.W.hasDictIn K C_AlphabetsDiffer = true)
    (caE_AlphabetsDiffer : PySem.W.findIn K (.ref C_AlphabetsDiffer) "__class__" = some (some (.builtin "object.__class__")))
    (mrE_AlphabetsDiffer : PySem.W.mroIn K C_AlphabetsDiffer (.type "object") = some true)
    (xL_AlphabetsDiffer : K.lookup C_AlphabetsDiffer = some (excClassObj nm_AlphabetsDiffer q_AlphabetsDiffer C_AlphabetsDiffer N_AlphabetsDiffer bs_AlphabetsDiffer bm_AlphabetsDiffer true sn_AlphabetsDiffer sub_AlphabetsDiffer ab_AlphabetsDiffer col_AlphabetsDiffer dd_AlphabetsDiffer m0_AlphabetsDiffer m1_AlphabetsDiffer m2_AlphabetsDiffer m3_AlphabetsDiffer m5_AlphabetsDiffer "ValueError.__new__"))
    (hb_AlphabetsDiffer : PySem.HandSPX.refsVE bm_AlphabetsDiffer = true)
    (saE_AlphabetsDiffer : PySem.W.findIn K (.ref C_AlphabetsDiffer) "__setattr__" = some (some (.builtin "object.__setattr__")))
    (iE_AlphabetsDiffer : PySem.W.findIn K (.ref C_AlphabetsDiffer) "__init__" = some (some (.ref fi_AlphabetsDiffer))) (tiE_AlphabetsDiffer : PySem.W.typeIn K (.ref fi_AlphabetsDiffer) = some (.type "function"))
    (lE_AlphabetsDiffer : K.lookup fi_AlphabetsDiffer = some ⟨ocE_AlphabetsDiffer, odE_AlphabetsDiffer, .func (PySem.W.fnOf "__init__" "AlphabetsDiffer.__init__" (defArgs s_AlphabetsDiffer___init__) (defBody s_AlphabetsDiffer___init__) (defScope s_AlphabetsDiffer___init__) .none kVE_AlphabetsDiffer dcE_AlphabetsDiffer pmE_AlphabetsDiffer anE_AlphabetsDiffer cdE_AlphabetsDiffer ctE_AlphabetsDiffer), slE_AlphabetsDiffer⟩) (ccE_AlphabetsDiffer : PySem.W.codeIn K cdE_AlphabetsDiffer "AlphabetsDiffer.__init__" = true) (kpE_AlphabetsDiffer : PySem.W.keepIn K (.ref fi_AlphabetsDiffer) = true)
    (nfE_AlphabetsDiffer_one : PySem.W.findIn K (.ref C_AlphabetsDiffer) "one" = some none)
    (nfE_AlphabetsDiffer_two : PySem.W.findIn K (.ref C_AlphabetsDiffer) "two" = some none)
    (kt_AlphabetsDiffer_PressError : PySem.W.kitOne K (.ref C_AlphabetsDiffer) (.ref C_PressError) = some true)
    (kt_AlphabetsDiffer_BadAlphabet : PySem.W.kitOne K (.ref C_AlphabetsDiffer) (.ref C_BadAlphabet) = some false)
    (kt_AlphabetsDiffer_BadLetter : PySem.W.kitOne K (.ref C_AlphabetsDiffer) (.ref C_BadLetter) = some false)
    (kt_AlphabetsDiffer_BadStanding : PySem.W.kitOne K (.ref C_AlphabetsDiffer) (.ref C_BadStanding) = some false)
    (kt_AlphabetsDiffer_BadRule : PySem.W.kitOne K (.ref C_AlphabetsDiffer) (.ref C_BadRule) = some false)
    (kt_AlphabetsDiffer_AlphabetsDiffer : PySem.W.kitOne K (.ref C_AlphabetsDiffer) (.ref C_AlphabetsDiffer) = some true)
    (kt_AlphabetsDiffer_VE : PySem.W.kitOne K (.ref C_AlphabetsDiffer) (.type "ValueError") = some true)
    (ex_AlphabetsDiffer_PressError : PySem.W.exmOne K (.ref C_AlphabetsDiffer) (.ref C_PressError) = some true)
    (aC_Machine : PySem.W.nsIn K mainGlobals "Machine" = some (some (.ref C_Machine)))
    (pg_Machine : PySem.W.plainGet K C_Machine Str.empty = true) (hd_Machine : PySem.W.hasDictIn K C_Machine = true) (po_Machine : PySem.W.plainOver K C_Machine = true) (sa_Machine : PySem.W.findIn K (.ref C_Machine) "__setattr__" = some (some (.builtin "object.__setattr__"))) (mk_Machine : PySem.W.makesIn K C_Machine = true) (kc_Machine : PySem.W.keepIn K (.ref C_Machine) = true)
    (n_Machine_alphabet : PySem.W.findIn K (.ref C_Machine) "alphabet" = some none)
    (n_Machine_rules : PySem.W.findIn K (.ref C_Machine) "rules" = some none)
    (n_Machine_standings : PySem.W.findIn K (.ref C_Machine) "standings" = some none)
    (n_Machine_reached : PySem.W.findIn K (.ref C_Machine) "reached" = some none)
    (a46 : PySem.W.findIn K (.ref C_Machine) "__init__" = some (some (.ref f46))) (i46 : PySem.W.isFn K (.ref f46) = true)
    (l46 : K.lookup f46 = some ⟨oc46, od46, .func (PySem.W.fnOf "__init__" "Machine.__init__" (defArgs s_Machine___init__) (defBody s_Machine___init__) (defScope s_Machine___init__) .none kV46 dc46 pm46 an46 cd46 ct46), sl46⟩)
    (c46 : PySem.W.codeIn K cd46 "Machine.__init__" = true) (k46 : PySem.W.keepIn K (.ref f46) = true)
    (w47 : He5.wrapB K C_Machine "staticmethod" "staticmethod.__get__" "plain" = true) (e47 : f47 = He5.wf K C_Machine "staticmethod" "plain")
    (l47 : K.lookup f47 = some ⟨oc47, od47, .func (PySem.W.fnOf "plain" "Machine.plain" (defArgs s_Machine_plain) (defBody s_Machine_plain) (defScope s_Machine_plain) .none kV47 dc47 pm47 an47 cd47 ct47), sl47⟩)
    (c47 : PySem.W.codeIn K cd47 "Machine.plain" = true) (k47 : PySem.W.keepIn K (.ref f47) = true)
    (a48 : PySem.W.findIn K (.ref C_Machine) "run" = some (some (.ref f48))) (i48 : PySem.W.isFn K (.ref f48) = true)
    (l48 : ∃ fd, Fun K "run" "Machine.run" s_Machine_run f48 fd ∧ KwF K fd [("start", .int 0)])
    (k48 : PySem.W.keepIn K (.ref f48) = true)
    (a49 : PySem.W.findIn K (.ref C_Machine) "last_after" = some (some (.ref f49))) (i49 : PySem.W.isFn K (.ref f49) = true)
    (l49 : K.lookup f49 = some ⟨oc49, od49, .func (PySem.W.fnOf "last_after" "Machine.last_after" (defArgs s_Machine_last_after) (defBody s_Machine_last_after) (defScope s_Machine_last_after) .none kV49 dc49 pm49 an49 cd49 ct49), sl49⟩)
    (c49 : PySem.W.codeIn K cd49 "Machine.last_after" = true) (k49 : PySem.W.keepIn K (.ref f49) = true)
    (rd_Machine : PySem.W.readsIn K C_Machine (.type "type") = true) (rg_Machine : PySem.W.specialIn K (.ref C_Machine) "__getattribute__" = some (some (.builtin "type.__getattribute__")))
    (z_ValueError : PySem.W.nsIn K mainGlobals "ValueError" = some none)
    (z_all : PySem.W.nsIn K mainGlobals "all" = some none)
    (z_bool : PySem.W.nsIn K mainGlobals "bool" = some none)
    (z_enumerate : PySem.W.nsIn K mainGlobals "enumerate" = some none)
    (z_int : PySem.W.nsIn K mainGlobals "int" = some none)
    (z_isinstance : PySem.W.nsIn K mainGlobals "isinstance" = some none)
    (z_len : PySem.W.nsIn K mainGlobals "len" = some none)
    (z_list : PySem.W.nsIn K mainGlobals "list" = some none)
    (z_max : PySem.W.nsIn K mainGlobals "max" = some none)
    (z_min : PySem.W.nsIn K mainGlobals "min" = some none)
    (z_range : PySem.W.nsIn K mainGlobals "range" = some none)
    (z_sorted : PySem.W.nsIn K mainGlobals "sorted" = some none)
    (z_str : PySem.W.nsIn K mainGlobals "str" = some none)
    (z_tuple : PySem.W.nsIn K mainGlobals "tuple" = some none)
    (z_zip : PySem.W.nsIn K mainGlobals "zip" = some none)
    (g_LETTERS : PySem.W.nsIn K mainGlobals "LETTERS" = some (some (.str (Str.ofString "0123456789abcdefghijklmnopqrstuvwxyz") t_LETTERS)))
    (g_MOST_LETTERS : PySem.W.nsIn K mainGlobals "MOST_LETTERS" = some (some (.int 6 t_MOST_LETTERS)))
    : ∃ fd : FuncData, (∀ (s : Shared) (v : Value), BindsTo s fd ⟨[v], []⟩ [("script", v)]) ∧ ∀ base : Heap, K.In base → base.Ns mainGlobals mg → FnOk l.prog w K mg base CX0 10 fa fd ["script"] (spLaw K) := by
  have e := hfa.symm.trans (PySem.W.mg_of X G a45)
  cases e
  have T : Top K mg C_Machine := { z_ValueError := PySem.W.mg_none_of X G z_ValueError, z_all := PySem.W.mg_none_of X G z_all, z_bool := PySem.W.mg_none_of X G z_bool, z_enumerate := PySem.W.mg_none_of X G z_enumerate, z_int := PySem.W.mg_none_of X G z_int, z_isinstance := PySem.W.mg_none_of X G z_isinstance, z_len := PySem.W.mg_none_of X G z_len, z_list := PySem.W.mg_none_of X G z_list, z_max := PySem.W.mg_none_of X G z_max, z_min := PySem.W.mg_none_of X G z_min, z_range := PySem.W.mg_none_of X G z_range, z_sorted := PySem.W.mg_none_of X G z_sorted, z_str := PySem.W.mg_none_of X G z_str, z_tuple := PySem.W.mg_none_of X G z_tuple, z_zip := PySem.W.mg_none_of X G z_zip, c_Machine := PySem.W.mg_of X G aC_Machine, cl_Machine := ⟨pg_Machine, hd_Machine, po_Machine, sa_Machine⟩, n_Machine_alphabet := n_Machine_alphabet, n_Machine_rules := n_Machine_rules, n_Machine_standings := n_Machine_standings, n_Machine_reached := n_Machine_reached, cr_Machine := ⟨rd_Machine, rg_Machine⟩, g_LETTERS := ⟨t_LETTERS, PySem.W.mg_of X G g_LETTERS⟩, g_MOST_LETTERS := ⟨t_MOST_LETTERS, PySem.W.mg_of X G g_MOST_LETTERS⟩ }
  have TE : ETop K mg C_PressError C_BadAlphabet C_BadLetter C_BadStanding C_BadRule C_AlphabetsDiffer := { c_PressError := PySem.W.mg_of X G aE_PressError, c_BadAlphabet := PySem.W.mg_of X G aE_BadAlphabet, c_BadLetter := PySem.W.mg_of X G aE_BadLetter, c_BadStanding := PySem.W.mg_of X G aE_BadStanding, c_BadRule := PySem.W.mg_of X G aE_BadRule, c_AlphabetsDiffer := PySem.W.mg_of X G aE_AlphabetsDiffer, nf_BadLetter_index := nfE_BadLetter_index, kt_BadLetter_PressError := kt_BadLetter_PressError, kt_BadLetter_BadAlphabet := kt_BadLetter_BadAlphabet, kt_BadLetter_BadLetter := kt_BadLetter_BadLetter, kt_BadLetter_BadStanding := kt_BadLetter_BadStanding, kt_BadLetter_BadRule := kt_BadLetter_BadRule, kt_BadLetter_AlphabetsDiffer := kt_BadLetter_AlphabetsDiffer, kt_BadLetter_VE := kt_BadLetter_VE, ex_BadLetter_PressError := ex_BadLetter_PressError, nf_AlphabetsDiffer_one := nfE_AlphabetsDiffer_one, nf_AlphabetsDiffer_two := nfE_AlphabetsDiffer_two, kt_AlphabetsDiffer_PressError := kt_AlphabetsDiffer_PressError, kt_AlphabetsDiffer_BadAlphabet := kt_AlphabetsDiffer_BadAlphabet, kt_AlphabetsDiffer_BadLetter := kt_AlphabetsDiffer_BadLetter, kt_AlphabetsDiffer_BadStanding := kt_AlphabetsDiffer_BadStanding, kt_AlphabetsDiffer_BadRule := kt_AlphabetsDiffer_BadRule, kt_AlphabetsDiffer_AlphabetsDiffer := kt_AlphabetsDiffer_AlphabetsDiffer, kt_AlphabetsDiffer_VE := kt_AlphabetsDiffer_VE, ex_AlphabetsDiffer_PressError := ex_AlphabetsDiffer_PressError }
  have xc_BadLetter : ExcC K C_BadLetter := ⟨gaE_BadLetter, ggE_BadLetter, sbE_BadLetter, hdE_BadLetter, caE_BadLetter, hn_get, ht_get, mrE_BadLetter⟩
  have oe_BadLetter : OexC K C_BadLetter := ⟨⟨_, _, _, _, _, _, _, _, _, _, _, _, _, _, _, xL_BadLetter, hb_BadLetter⟩, saE_BadLetter, sbE_BadLetter, ty_BadLetter, kcE_BadLetter⟩
  have FI_BadLetter := fun_mk (st := s_BadLetter___init__) lE_BadLetter ccE_BadLetter kpE_BadLetter
  have GE_BadLetter : ∀ base : Heap, Er_BadLetter l.prog w K mg base C_BadLetter := fun base => ⟨oe_BadLetter, PySem.W.mg_of X G aE_BadLetter, ⟨gaE_BadLetter, ggE_BadLetter, sbE_BadLetter, hdE_BadLetter⟩, xc_BadLetter, fi_BadLetter, _, iE_BadLetter, tiE_BadLetter, he_BadLetter FI_BadLetter oe_BadLetter nfE_BadLetter_index, FI_BadLetter.binds fun _ _ _ _ _ _ us hl => match us, hl with | [_, _], _ => rfl⟩
  have xc_AlphabetsDiffer : ExcC K C_AlphabetsDiffer := ⟨gaE_AlphabetsDiffer, ggE_AlphabetsDiffer, sbE_AlphabetsDiffer, hdE_AlphabetsDiffer, caE_AlphabetsDiffer, hn_get, ht_get, mrE_AlphabetsDiffer⟩
  have oe_AlphabetsDiffer : OexC K C_AlphabetsDiffer := ⟨⟨_, _, _, _, _, _, _, _, _, _, _, _, _, _, _, xL_AlphabetsDiffer, hb_AlphabetsDiffer⟩, saE_AlphabetsDiffer, sbE_AlphabetsDiffer, ty_AlphabetsDiffer, kcE_AlphabetsDiffer⟩
  have FI_AlphabetsDiffer := fun_mk (st := s_AlphabetsDiffer___init__) lE_AlphabetsDiffer ccE_AlphabetsDiffer kpE_AlphabetsDiffer
  have GE_AlphabetsDiffer : ∀ base : Heap, Er_AlphabetsDiffer l.prog w K mg base C_AlphabetsDiffer := fun base => ⟨oe_AlphabetsDiffer, PySem.W.mg_of X G aE_AlphabetsDiffer, ⟨gaE_AlphabetsDiffer, ggE_AlphabetsDiffer, sbE_AlphabetsDiffer, hdE_AlphabetsDiffer⟩, xc_AlphabetsDiffer, fi_AlphabetsDiffer, _, iE_AlphabetsDiffer, tiE_AlphabetsDiffer, he_AlphabetsDiffer FI_AlphabetsDiffer oe_AlphabetsDiffer nfE_AlphabetsDiffer_one nfE_AlphabetsDiffer_two, FI_AlphabetsDiffer.binds fun _ _ _ _ _ _ us hl => match us, hl with | [_, _, _], _ => rfl⟩
  have A_is_alphabet := at_mk (st := s_is_alphabet) X G a0 l0 c0 k0
  have A_check_alphabet := at_mk (st := s_check_alphabet) X G a1 l1 c1 k1
  have A_check_text := at_mk (st := s_check_text) X G a2 l2 c2 k2
  have A_check_same_alphabet := at_mk (st := s_check_same_alphabet) X G a3 l3 c3 k3
  have A_is_whole := at_mk (st := s_is_whole) X G a4 l4 c4 k4
  have A_is_number_below := at_mk (st := s_is_number_below) X G a5 l5 c5 k5
  have A_is_bits := at_mk (st := s_is_bits) X G a6 l6 c6 k6
  have A_as_tuples := at_mk (st := s_as_tuples) X G a7 l7 c7 k7
  have A_first_of_classes := at_mk (st := s_first_of_classes) X G a8 l8 c8 k8
  have A_reached_in := at_mk (st := s_reached_in) X G a9 l9 c9 k9
  have A_width := at_mk (st := s_width) X G a10 l10 c10 k10
  have A_number_bits := at_mk (st := s_number_bits) X G a11 l11 c11 k11
  have A_index_words := at_mk (st := s_index_words) X G a12 l12 c12 k12
  have A_check_rules := at_mk (st := s_check_rules) X G a13 l13 c13 k13
  have A_check_row_lengths := at_mk (st := s_check_row_lengths) X G a14 l14 c14 k14
  have A_nexts_of := at_mk (st := s_nexts_of) X G a15 l15 c15 k15
  have A_written_by := at_mk (st := s_written_by) X G a16 l16 c16 k16
  have A_is_lead_loop := at_mk (st := s_is_lead_loop) X G a17 l17 c17 k17
  have A__law_whole := at_mk (st := s__law_whole) X G a18 l18 c18 k18
  have A__law_cell := at_mk (st := s__law_cell) X G a19 l19 c19 k19
  have A__law_digits := at_mk (st := s__law_digits) X G a20 l20 c20 k20
  have A__law_alphabet := at_mk (st := s__law_alphabet) X G a21 l21 c21 k21
  have A__law_other_alphabet := at_mk (st := s__law_other_alphabet) X G a22 l22 c22 k22
  have A__law_width := at_mk (st := s__law_width) X G a23 l23 c23 k23
  have A__law_number := at_mk (st := s__law_number) X G a24 l24 c24 k24
  have A__law_code := at_mk (st := s__law_code) X G a25 l25 c25 k25
  have A__law_ring_rules := at_mk (st := s__law_ring_rules) X G a26 l26 c26 k26
  have A__law_free_rules := at_mk (st := s__law_free_rules) X G a27 l27 c27 k27
  have A__law_holding_rules := at_mk (st := s__law_holding_rules) X G a28 l28 c28 k28
  have A__law_grouped_rules := at_mk (st := s__law_grouped_rules) X G a29 l29 c29 k29
  have A__law_some_rules := at_mk (st := s__law_some_rules) X G a30 l30 c30 k30
  have A__law_bits := at_mk (st := s__law_bits) X G a31 l31 c31 k31
  have A__law_balanced_rules := at_mk (st := s__law_balanced_rules) X G a32 l32 c32 k32
  have A__law_burst_rules := at_mk (st := s__law_burst_rules) X G a33 l33 c33 k33
  have A__law_two_rules := at_mk (st := s__law_two_rules) X G a34 l34 c34 k34
  have A__law_race := at_mk (st := s__law_race) X G a35 l35 c35 k35
  have A__law_slow_rules := at_mk (st := s__law_slow_rules) X G a36 l36 c36 k36
  have A__law_loop := at_mk (st := s__law_loop) X G a37 l37 c37 k37
  have A__law_due := at_mk (st := s__law_due) X G a38 l38 c38 k38
  have A__law_cases := at_mk (st := s__law_cases) X G a39 l39 c39 k39
  have A__law_told := at_mk (st := s__law_told) X G a40 l40 c40 k40
  have A__law_fits := at_mk (st := s__law_fits) X G a41 l41 c41 k41
  have A__law_all_cases := at_mk (st := s__law_all_cases) X G a42 l42 c42 k42
  have A__law_spoilt := at_mk (st := s__law_spoilt) X G a43 l43 c43 k43
  have A__law_letters_fit := at_mk (st := s__law_letters_fit) X G a44 l44 c44 k44
  have A_Machine___init__ : AtI K C_Machine "Machine.__init__" s_Machine___init__ := ⟨⟨f46, _, fun_mk l46 c46 k46, ⟨mk_Machine, a46, i46, kc_Machine⟩⟩⟩
  subst e47
  have A_Machine_plain : AtS K C_Machine "plain" "Machine.plain" s_Machine_plain := ⟨⟨_, _, fun_mk l47 c47 k47, ⟨⟨_, (He5.wrapB_ok w47).1, (He5.wrapB_ok w47).2⟩, k47⟩⟩⟩
  have A_Machine_run : AtMK K C_Machine "run" "Machine.run" s_Machine_run [("start", .int 0)] := ⟨by
    obtain ⟨fd, hF, hk⟩ := l48
    exact ⟨f48, fd, hF, ⟨a48, i48, k48⟩, hk⟩⟩
  have A_Machine_last_after : AtM K C_Machine "last_after" "Machine.last_after" s_Machine_last_after := ⟨⟨f49, _, fun_mk l49 c49 k49, ⟨a49, i49, k49⟩⟩⟩
  refine ⟨PySem.W.fnOf "law" "law" (defArgs s_law) (defBody s_law) (defScope s_law) .none kV45 dc45 pm45 an45 cd45 ct45, fun s v => .of_eq rfl, fun base _ _ => ?_⟩
  have h_isal := has_isal (P := l.prog) (w := w) (base := base) A_is_alphabet T
  have h_ckal := has_ckal A_check_alphabet T h_isal
  have h_cktx := has_cktx (P := l.prog) (w := w) (base := base) A_check_text T
  have h_cktxB := has_cktxB A_check_text T (GE_BadLetter base)
  have h_cktx2 := has_both h_cktx h_cktxB (by decide)
  have h_whole := has_whole (P := l.prog) (w := w) (base := base) A_is_whole T
  have h_below := has_below A_is_number_below T h_whole
  have h_wid := has_width (P := l.prog) (w := w) (base := base) A_width
  have h_nb := has_nb A_number_bits T h_wid
  have h_isb := has_isb (P := l.prog) (w := w) (base := base) A_is_bits T
  have h_as := has_asP (P := l.prog) (w := w) (base := base) A_as_tuples T
  have h_crl := has_crl (P := l.prog) (w := w) (base := base) A_check_row_lengths T
  have h_cr := has_cr A_check_rules T h_crl h_below h_isb
  have h_nx := has_nx (P := l.prog) (w := w) (base := base) A_nexts_of T
  have h_fc := has_fc (P := l.prog) (w := w) (base := base) A_first_of_classes T
  have h_ri := has_ri A_reached_in T h_fc
  have h_mi := has_mi A_Machine___init__ T h_ckal h_as h_cr h_nx h_ri
  have h_wb := has_wb (P := l.prog) (w := w) (base := base) A_written_by T
  have h_run := has_run A_Machine_run T h_cktx2 h_wb
  have h_csa := has_csa A_check_same_alphabet T (GE_AlphabetsDiffer base)
  have h_la := has_la A_Machine_last_after T h_run
  have h_ll := has_ll A_is_lead_loop T h_csa h_la h_run
  have h_iw := has_iw A_index_words T h_nb
  have h_pl := has_pl A_Machine_plain T h_mi h_iw
  have h_lwhole := has_lwhole (P := l.prog) (w := w) (base := base) A__law_whole T
  have h_cell := has_cell (P := l.prog) (w := w) (base := base) A__law_cell T
  have h_digits := has_digits (P := l.prog) (w := w) (base := base) A__law_digits T
  have h_signs := has_signs (P := l.prog) (w := w) (base := base) A__law_alphabet T
  have h_code := has_code (P := l.prog) (w := w) (base := base) A__law_code T
  have h_bt := has_bt (P := l.prog) (w := w) (base := base) A__law_bits T
  have h_ring := has_ring A__law_ring_rules T h_code
  have h_free := has_free (P := l.prog) (w := w) (base := base) A__law_free_rules T
  have h_hold := has_hold A__law_holding_rules T h_code
  have h_lwB := has_lwB (P := l.prog) (w := w) (base := base) A__law_width T
  have h_num := has_num A__law_number T h_lwB
  have h_burst := has_burst A__law_burst_rules T h_bt
  have h_slow := has_slow (P := l.prog) (w := w) (base := base) A__law_slow_rules T
  have h_bal := has_bal A__law_balanced_rules T h_bt
  have h_gr := has_gr A__law_grouped_rules T h_num
  have h_some := has_some A__law_some_rules T h_ring h_gr h_hold h_free
  have h_two := has_two A__law_two_rules T h_bal h_burst h_hold h_code h_some
  have h_race := has_race (P := l.prog) (w := w) (base := base) A__law_race T
  have h_due := has_due A__law_due T h_race
  have h_lp := has_lp A__law_loop T h_race
  have h_cs := has_cs (P := l.prog) (w := w) (base := base) A__law_cases T
  have h_ac := has_ac A__law_all_cases T h_lp h_cs
  have h_spt := has_spt (P := l.prog) (w := w) (base := base) A__law_spoilt T
  have h_oa := has_oa (P := l.prog) (w := w) (base := base) A__law_other_alphabet T
  have h_tld := has_tld A__law_told T TE (GE_AlphabetsDiffer base) (GE_BadLetter base) h_ll
  have h_fit := has_fit A__law_fits T h_due h_tld
  have h_lf := has_lf A__law_letters_fit T h_spt h_tld h_lwhole h_oa h_pl
  exact ok_law (fun_mk (st := s_law) l45 c45 k45) T h_signs h_digits h_cell h_two h_mi h_ac h_fit h_ring h_slow h_lp h_tld h_lf h_ll
def q_a0 : Fc := fun K => He.eqO (PySem.W.nsIn K mainGlobals "is_alphabet") (some (some (.ref (He.fAd K ("is_alphabet", none)))))
def q_k0 : Fc := fun K => PySem.W.keepIn K (.ref (He.fAd K ("is_alphabet", none)))
def q_a1 : Fc := fun K => He.eqO (PySem.W.nsIn K mainGlobals "check_alphabet") (some (some (.ref (He.fAd K ("check_alphabet", none)))))
def q_k1 : Fc := fun K => PySem.W.keepIn K (.ref (He.fAd K ("check_alphabet", none)))
def q_a2 : Fc := fun K => He.eqO (PySem.W.nsIn K mainGlobals "check_text") (some (some (.ref (He.fAd K ("check_text", none)))))
def q_k2 : Fc := fun K => PySem.W.keepIn K (.ref (He.fAd K ("check_text", none)))
def q_a3 : Fc := fun K => He.eqO (PySem.W.nsIn K mainGlobals "check_same_alphabet") (some (some (.ref (He.fAd K ("check_same_alphabet", none)))))
def q_k3 : Fc := fun K => PySem.W.keepIn K (.ref (He.fAd K ("check_same_alphabet", none)))
def q_a4 : Fc := fun K => He.eqO (PySem.W.nsIn K mainGlobals "is_whole") (some (some (.ref (He.fAd K ("is_whole", none)))))
def q_k4 : Fc := fun K => PySem.W.keepIn K (.ref (He.fAd K ("is_whole", none)))
def q_a5 : Fc := fun K => He.eqO (PySem.W.nsIn K mainGlobals "is_number_below") (some (some (.ref (He.fAd K ("is_number_below", none)))))
def q_k5 : Fc := fun K => PySem.W.keepIn K (.ref (He.fAd K ("is_number_below", none)))
def q_a6 : Fc := fun K => He.eqO (PySem.W.nsIn K mainGlobals "is_bits") (some (some (.ref (He.fAd K ("is_bits", none)))))
def q_k6 : Fc := fun K => PySem.W.keepIn K (.ref (He.fAd K ("is_bits", none)))
def q_a7 : Fc := fun K => He.eqO (PySem.W.nsIn K mainGlobals "as_tuples") (some (some (.ref (He.fAd K ("as_tuples", none)))))
def q_k7 : Fc := fun K => PySem.W.keepIn K (.ref (He.fAd K ("as_tuples", none)))
def q_a8 : Fc := fun K => He.eqO (PySem.W.nsIn K mainGlobals "first_of_classes") (some (some (.ref (He.fAd K ("first_of_classes", none)))))
def q_k8 : Fc := fun K => PySem.W.keepIn K (.ref (He.fAd K ("first_of_classes", none)))
def q_a9 : Fc := fun K => He.eqO (PySem.W.nsIn K mainGlobals "reached_in") (some (some (.ref (He.fAd K ("reached_in", none)))))
def q_k9 : Fc := fun K => PySem.W.keepIn K (.ref (He.fAd K ("reached_in", none)))
def q_a10 : Fc := fun K => He.eqO (PySem.W.nsIn K mainGlobals "width") (some (some (.ref (He.fAd K ("width", none)))))
def q_k10 : Fc := fun K => PySem.W.keepIn K (.ref (He.fAd K ("width", none)))
def q_a11 : Fc := fun K => He.eqO (PySem.W.nsIn K mainGlobals "number_bits") (some (some (.ref (He.fAd K ("number_bits", none)))))
def q_k11 : Fc := fun K => PySem.W.keepIn K (.ref (He.fAd K ("number_bits", none)))
def q_a12 : Fc := fun K => He.eqO (PySem.W.nsIn K mainGlobals "index_words") (some (some (.ref (He.fAd K ("index_words", none)))))
def q_k12 : Fc := fun K => PySem.W.keepIn K (.ref (He.fAd K ("index_words", none)))
def q_a13 : Fc := fun K => He.eqO (PySem.W.nsIn K mainGlobals "check_rules") (some (some (.ref (He.fAd K ("check_rules", none)))))
def q_k13 : Fc := fun K => PySem.W.keepIn K (.ref (He.fAd K ("check_rules", none)))
def q_a14 : Fc := fun K => He.eqO (PySem.W.nsIn K mainGlobals "check_row_lengths") (some (some (.ref (He.fAd K ("check_row_lengths", none)))))
def q_k14 : Fc := fun K => PySem.W.keepIn K (.ref (He.fAd K ("check_row_lengths", none)))
def q_a15 : Fc := fun K => He.eqO (PySem.W.nsIn K mainGlobals "nexts_of") (some (some (.ref (He.fAd K ("nexts_of", none)))))
def q_k15 : Fc := fun K => PySem.W.keepIn K (.ref (He.fAd K ("nexts_of", none)))
def q_a16 : Fc := fun K => He.eqO (PySem.W.nsIn K mainGlobals "written_by") (some (some (.ref (He.fAd K ("written_by", none)))))
def q_k16 : Fc := fun K => PySem.W.keepIn K (.ref (He.fAd K ("written_by", none)))
def q_a17 : Fc := fun K => He.eqO (PySem.W.nsIn K mainGlobals "is_lead_loop") (some (some (.ref (He.fAd K ("is_lead_loop", none)))))
def q_k17 : Fc := fun K => PySem.W.keepIn K (.ref (He.fAd K ("is_lead_loop", none)))
def q_a18 : Fc := fun K => He.eqO (PySem.W.nsIn K mainGlobals "_law_whole") (some (some (.ref (He.fAd K ("_law_whole", none)))))
def q_k18 : Fc := fun K => PySem.W.keepIn K (.ref (He.fAd K ("_law_whole", none)))
def q_a19 : Fc := fun K => He.eqO (PySem.W.nsIn K mainGlobals "_law_cell") (some (some (.ref (He.fAd K ("_law_cell", none)))))
def q_k19 : Fc := fun K => PySem.W.keepIn K (.ref (He.fAd K ("_law_cell", none)))
def q_a20 : Fc := fun K => He.eqO (PySem.W.nsIn K mainGlobals "_law_digits") (some (some (.ref (He.fAd K ("_law_digits", none)))))
def q_k20 : Fc := fun K => PySem.W.keepIn K (.ref (He.fAd K ("_law_digits", none)))
def q_a21 : Fc := fun K => He.eqO (PySem.W.nsIn K mainGlobals "_law_alphabet") (some (some (.ref (He.fAd K ("_law_alphabet", none)))))
def q_k21 : Fc := fun K => PySem.W.keepIn K (.ref (He.fAd K ("_law_alphabet", none)))
def q_a22 : Fc := fun K => He.eqO (PySem.W.nsIn K mainGlobals "_law_other_alphabet") (some (some (.ref (He.fAd K ("_law_other_alphabet", none)))))
def q_k22 : Fc := fun K => PySem.W.keepIn K (.ref (He.fAd K ("_law_other_alphabet", none)))
def q_a23 : Fc := fun K => He.eqO (PySem.W.nsIn K mainGlobals "_law_width") (some (some (.ref (He.fAd K ("_law_width", none)))))
def qs_0 : List Fc := [q_a0, q_k0, q_a1, q_k1, q_a2, q_k2, q_a3, q_k3, q_a4, q_k4, q_a5, q_k5, q_a6, q_k6, q_a7, q_k7, q_a8, q_k8, q_a9, q_k9, q_a10, q_k10, q_a11, q_k11, q_a12, q_k12, q_a13, q_k13, q_a14, q_k14, q_a15, q_k15, q_a16, q_k16, q_a17, q_k17, q_a18, q_k18, q_a19, q_k19, q_a20, q_k20, q_a21, q_k21, q_a22, q_k22, q_a23]
def q_k23 : Fc := fun K => PySem.W.keepIn K (.ref (He.fAd K ("_law_width", none)))
def q_a24 : Fc := fun K => He.eqO (PySem.W.nsIn K mainGlobals "_law_number") (some (some (.ref (He.fAd K ("_law_number", none)))))
def q_k24 : Fc := fun K => PySem.W.keepIn K (.ref (He.fAd K ("_law_number", none)))
def q_a25 : Fc := fun K => He.eqO (PySem.W.nsIn K mainGlobals "_law_code") (some (some (.ref (He.fAd K ("_law_code", none)))))
def q_k25 : Fc := fun K => PySem.W.keepIn K (.ref (He.fAd K ("_law_code", none)))
def q_a26 : Fc := fun K => He.eqO (PySem.W.nsIn K mainGlobals "_law_ring_rules") (some (some (.ref (He.fAd K ("_law_ring_rules", none)))))
def q_k26 : Fc := fun K => PySem.W.keepIn K (.ref (He.fAd K ("_law_ring_rules", none)))
def q_a27 : Fc := fun K => He.eqO (PySem.W.nsIn K mainGlobals "_law_free_rules") (some (some (.ref (He.fAd K ("_law_free_rules", none)))))
def q_k27 : Fc := fun K => PySem.W.keepIn K (.ref (He.fAd K ("_law_free_rules", none)))
def q_a28 : Fc := fun K => He.eqO (PySem.W.nsIn K mainGlobals "_law_holding_rules") (some (some (.ref (He.fAd K ("_law_holding_rules", none)))))
def q_k28 : Fc := fun K => PySem.W.keepIn K (.ref (He.fAd K ("_law_holding_rules", none)))
def q_a29 : Fc := fun K => He.eqO (PySem.W.nsIn K mainGlobals "_law_grouped_rules") (some (some (.ref (He.fAd K ("_law_grouped_rules", none)))))
def q_k29 : Fc := fun K => PySem.W.keepIn K (.ref (He.fAd K ("_law_grouped_rules", none)))
def q_a30 : Fc := fun K => He.eqO (PySem.W.nsIn K mainGlobals "_law_some_rules") (some (some (.ref (He.fAd K ("_law_some_rules", none)))))
def q_k30 : Fc := fun K => PySem.W.keepIn K (.ref (He.fAd K ("_law_some_rules", none)))
def q_a31 : Fc := fun K => He.eqO (PySem.W.nsIn K mainGlobals "_law_bits") (some (some (.ref (He.fAd K ("_law_bits", none)))))
def q_k31 : Fc := fun K => PySem.W.keepIn K (.ref (He.fAd K ("_law_bits", none)))
def q_a32 : Fc := fun K => He.eqO (PySem.W.nsIn K mainGlobals "_law_balanced_rules") (some (some (.ref (He.fAd K ("_law_balanced_rules", none)))))
def q_k32 : Fc := fun K => PySem.W.keepIn K (.ref (He.fAd K ("_law_balanced_rules", none)))
def q_a33 : Fc := fun K => He.eqO (PySem.W.nsIn K mainGlobals "_law_burst_rules") (some (some (.ref (He.fAd K ("_law_burst_rules", none)))))
def q_k33 : Fc := fun K => PySem.W.keepIn K (.ref (He.fAd K ("_law_burst_rules", none)))
def q_a34 : Fc := fun K => He.eqO (PySem.W.nsIn K mainGlobals "_law_two_rules") (some (some (.ref (He.fAd K ("_law_two_rules", none)))))
def q_k34 : Fc := fun K => PySem.W.keepIn K (.ref (He.fAd K ("_law_two_rules", none)))
def q_a35 : Fc := fun K => He.eqO (PySem.W.nsIn K mainGlobals "_law_race") (some (some (.ref (He.fAd K ("_law_race", none)))))
def q_k35 : Fc := fun K => PySem.W.keepIn K (.ref (He.fAd K ("_law_race", none)))
def q_a36 : Fc := fun K => He.eqO (PySem.W.nsIn K mainGlobals "_law_slow_rules") (some (some (.ref (He.fAd K ("_law_slow_rules", none)))))
def q_k36 : Fc := fun K => PySem.W.keepIn K (.ref (He.fAd K ("_law_slow_rules", none)))
def q_a37 : Fc := fun K => He.eqO (PySem.W.nsIn K mainGlobals "_law_loop") (some (some (.ref (He.fAd K ("_law_loop", none)))))
def q_k37 : Fc := fun K => PySem.W.keepIn K (.ref (He.fAd K ("_law_loop", none)))
def q_a38 : Fc := fun K => He.eqO (PySem.W.nsIn K mainGlobals "_law_due") (some (some (.ref (He.fAd K ("_law_due", none)))))
def q_k38 : Fc := fun K => PySem.W.keepIn K (.ref (He.fAd K ("_law_due", none)))
def q_a39 : Fc := fun K => He.eqO (PySem.W.nsIn K mainGlobals "_law_cases") (some (some (.ref (He.fAd K ("_law_cases", none)))))
def q_k39 : Fc := fun K => PySem.W.keepIn K (.ref (He.fAd K ("_law_cases", none)))
def q_a40 : Fc := fun K => He.eqO (PySem.W.nsIn K mainGlobals "_law_told") (some (some (.ref (He.fAd K ("_law_told", none)))))
def q_k40 : Fc := fun K => PySem.W.keepIn K (.ref (He.fAd K ("_law_told", none)))
def q_a41 : Fc := fun K => He.eqO (PySem.W.nsIn K mainGlobals "_law_fits") (some (some (.ref (He.fAd K ("_law_fits", none)))))
def q_k41 : Fc := fun K => PySem.W.keepIn K (.ref (He.fAd K ("_law_fits", none)))
def q_a42 : Fc := fun K => He.eqO (PySem.W.nsIn K mainGlobals "_law_all_cases") (some (some (.ref (He.fAd K ("_law_all_cases", none)))))
def q_k42 : Fc := fun K => PySem.W.keepIn K (.ref (He.fAd K ("_law_all_cases", none)))
def q_a43 : Fc := fun K => He.eqO (PySem.W.nsIn K mainGlobals "_law_spoilt") (some (some (.ref (He.fAd K ("_law_spoilt", none)))))
def q_k43 : Fc := fun K => PySem.W.keepIn K (.ref (He.fAd K ("_law_spoilt", none)))
def q_a44 : Fc := fun K => He.eqO (PySem.W.nsIn K mainGlobals "_law_letters_fit") (some (some (.ref (He.fAd K ("_law_letters_fit", none)))))
def q_k44 : Fc := fun K => PySem.W.keepIn K (.ref (He.fAd K ("_law_letters_fit", none)))
def q_a45 : Fc := fun K => He.eqO (PySem.W.nsIn K mainGlobals "law") (some (some (.ref (He.fAd K ("law", none)))))
def q_k45 : Fc := fun K => PySem.W.keepIn K (.ref (He.fAd K ("law", none)))
def q_hn_get : Fc := fun K => He.eqO (PySem.W.specialIn K (.builtin "object.__class__") "__get__") (some (some (.builtin "getset_descriptor.__get__")))
def q_ht_get : Fc := fun K => obB (PySem.W.takesIn K (.builtin "object.__class__")) true
def qs_1 : List Fc := [q_k23, q_a24, q_k24, q_a25, q_k25, q_a26, q_k26, q_a27, q_k27, q_a28, q_k28, q_a29, q_k29, q_a30, q_k30, q_a31, q_k31, q_a32, q_k32, q_a33, q_k33, q_a34, q_k34, q_a35, q_k35, q_a36, q_k36, q_a37, q_k37, q_a38, q_k38, q_a39, q_k39, q_a40, q_k40, q_a41, q_k41, q_a42, q_k42, q_a43, q_k43, q_a44, q_k44, q_a45, q_k45, q_hn_get, q_ht_get]
def q_aE_PressError : Fc := fun K => He.eqO (PySem.W.nsIn K mainGlobals "PressError") (some (some (.ref (He.ga K "PressError"))))
def q_aE_BadAlphabet : Fc := fun K => He.eqO (PySem.W.nsIn K mainGlobals "BadAlphabet") (some (some (.ref (He.ga K "BadAlphabet"))))
def q_aE_BadLetter : Fc := fun K => He.eqO (PySem.W.nsIn K mainGlobals "BadLetter") (some (some (.ref (He.ga K "BadLetter"))))
def q_aE_BadStanding : Fc := fun K => He.eqO (PySem.W.nsIn K mainGlobals "BadStanding") (some (some (.ref (He.ga K "BadStanding"))))
def q_aE_BadRule : Fc := fun K => He.eqO (PySem.W.nsIn K mainGlobals "BadRule") (some (some (.ref (He.ga K "BadRule"))))
def q_aE_AlphabetsDiffer : Fc := fun K => He.eqO (PySem.W.nsIn K mainGlobals "AlphabetsDiffer") (some (some (.ref (He.ga K "AlphabetsDiffer"))))
def q_ty_BadLetter : Fc := fun K => tyB (PySem.W.typeIn K (.ref (He.ga K "BadLetter"))) "type"
def q_kcE_BadLetter : Fc := fun K => PySem.W.keepIn K (.ref (He.ga K "BadLetter"))
def q_gaE_BadLetter : Fc := fun K => He.eqO (PySem.W.findIn K (.ref (He.ga K "BadLetter")) "__getattribute__") (some (some (.builtin "BaseException.__getattribute__")))
def q_ggE_BadLetter : Fc := fun K => He.eqO (PySem.W.findIn K (.ref (He.ga K "BadLetter")) "__getattr__") (some none)
def q_sbE_BadLetter : Fc := fun K => obB (PySem.W.subIn K (.ref (He.ga K "BadLetter")) (.type "BaseException")) true
def q_hdE_BadLetter : Fc := fun K => PySem.W.hasDictIn K (He.ga K "BadLetter")
def q_caE_BadLetter : Fc := fun K => He.eqO (PySem.W.findIn K (.ref (He.ga K "BadLetter")) "__class__") (some (some (.builtin "object.__class__")))
def q_mrE_BadLetter : Fc := fun K => obB (PySem.W.mroIn K (He.ga K "BadLetter") (.type "object")) true
def q_xL_BadLetter : Fc := fun K => xcB K (He.ga K "BadLetter")
def q_saE_BadLetter : Fc := fun K => He.eqO (PySem.W.findIn K (.ref (He.ga K "BadLetter")) "__setattr__") (some (some (.builtin "object.__setattr__")))
def q_iE_BadLetter : Fc := fun K => He.eqO (PySem.W.findIn K (.ref (He.ga K "BadLetter")) "__init__") (some (some (.ref (He.fAd K ("BadLetter", some "__init__")))))
def q_tiE_BadLetter : Fc := fun K => tyB (PySem.W.typeIn K (.ref (He.fAd K ("BadLetter", some "__init__")))) "function"
def q_kpE_BadLetter : Fc := fun K => PySem.W.keepIn K (.ref (He.fAd K ("BadLetter", some "__init__")))
def q_nfE_BadLetter_index : Fc := fun K => He.eqO (PySem.W.findIn K (.ref (He.ga K "BadLetter")) "index") (some none)
def q_kt_BadLetter_PressError : Fc := fun K => obB (PySem.W.kitOne K (.ref (He.ga K "BadLetter")) (.ref (He.ga K "PressError"))) true
def q_kt_BadLetter_BadAlphabet : Fc := fun K => obB (PySem.W.kitOne K (.ref (He.ga K "BadLetter")) (.ref (He.ga K "BadAlphabet"))) false
def q_kt_BadLetter_BadLetter : Fc := fun K => obB (PySem.W.kitOne K (.ref (He.ga K "BadLetter")) (.ref (He.ga K "BadLetter"))) true
def q_kt_BadLetter_BadStanding : Fc := fun K => obB (PySem.W.kitOne K (.ref (He.ga K "BadLetter")) (.ref (He.ga K "BadStanding"))) false
def q_kt_BadLetter_BadRule : Fc := fun K => obB (PySem.W.kitOne K (.ref (He.ga K "BadLetter")) (.ref (He.ga K "BadRule"))) false
def q_kt_BadLetter_AlphabetsDiffer : Fc := fun K => obB (PySem.W.kitOne K (.ref (He.ga K "BadLetter")) (.ref (He.ga K "AlphabetsDiffer"))) false
def q_kt_BadLetter_VE : Fc := fun K => obB (PySem.W.kitOne K (.ref (He.ga K "BadLetter")) (.type "ValueError")) true
def q_ex_BadLetter_PressError : Fc := fun K => obB (PySem.W.exmOne K (.ref (He.ga K "BadLetter")) (.ref (He.ga K "PressError"))) true
def q_ty_AlphabetsDiffer : Fc := fun K => tyB (PySem.W.typeIn K (.ref (He.ga K "AlphabetsDiffer"))) "type"
def q_kcE_AlphabetsDiffer : Fc := fun K => PySem.W.keepIn K (.ref (He.ga K "AlphabetsDiffer"))
def q_gaE_AlphabetsDiffer : Fc := fun K => He.eqO (PySem.W.findIn K (.ref (He.ga K "AlphabetsDiffer")) "__getattribute__") (some (some (.builtin "BaseException.__getattribute__")))
def q_ggE_AlphabetsDiffer : Fc := fun K => He.eqO (PySem.W.findIn K (.ref (He.ga K "AlphabetsDiffer")) "__getattr__") (some none)
def q_sbE_AlphabetsDiffer : Fc := fun K => obB (PySem.W.subIn K (.ref (He.ga K "AlphabetsDiffer")) (.type "BaseException")) true
def q_hdE_AlphabetsDiffer : Fc := fun K => PySem.W.hasDictIn K (He.ga K "AlphabetsDiffer")
def q_caE_AlphabetsDiffer : Fc := fun K => He.eqO (PySem.W.findIn K (.ref (He.ga K "AlphabetsDiffer")) "__class__") (some (some (.builtin "object.__class__")))
def q_mrE_AlphabetsDiffer : Fc := fun K => obB (PySem.W.mroIn K (He.ga K "AlphabetsDiffer") (.type "object")) true
def q_xL_AlphabetsDiffer : Fc := fun K => xcB K (He.ga K "AlphabetsDiffer")
def q_saE_AlphabetsDiffer : Fc := fun K => He.eqO (PySem.W.findIn K (.ref (He.ga K "AlphabetsDiffer")) "__setattr__") (some (some (.builtin "object.__setattr__")))
def q_iE_AlphabetsDiffer : Fc := fun K => He.eqO (PySem.W.findIn K (.ref (He.ga K "AlphabetsDiffer")) "__init__") (some (some (.ref (He.fAd K ("AlphabetsDiffer", some "__init__")))))
def q_tiE_AlphabetsDiffer : Fc := fun K => tyB (PySem.W.typeIn K (.ref (He.fAd K ("AlphabetsDiffer", some "__init__")))) "function"
def q_kpE_AlphabetsDiffer : Fc := fun K => PySem.W.keepIn K (.ref (He.fAd K ("AlphabetsDiffer", some "__init__")))
def q_nfE_AlphabetsDiffer_one : Fc := fun K => He.eqO (PySem.W.findIn K (.ref (He.ga K "AlphabetsDiffer")) "one") (some none)
def q_nfE_AlphabetsDiffer_two : Fc := fun K => He.eqO (PySem.W.findIn K (.ref (He.ga K "AlphabetsDiffer")) "two") (some none)
def q_kt_AlphabetsDiffer_PressError : Fc := fun K => obB (PySem.W.kitOne K (.ref (He.ga K "AlphabetsDiffer")) (.ref (He.ga K "PressError"))) true
def q_kt_AlphabetsDiffer_BadAlphabet : Fc := fun K => obB (PySem.W.kitOne K (.ref (He.ga K "AlphabetsDiffer")) (.ref (He.ga K "BadAlphabet"))) false
def q_kt_AlphabetsDiffer_BadLetter : Fc := fun K => obB (PySem.W.kitOne K (.ref (He.ga K "AlphabetsDiffer")) (.ref (He.ga K "BadLetter"))) false
def q_kt_AlphabetsDiffer_BadStanding : Fc := fun K => obB (PySem.W.kitOne K (.ref (He.ga K "AlphabetsDiffer")) (.ref (He.ga K "BadStanding"))) false
def qs_2 : List Fc := [q_aE_PressError, q_aE_BadAlphabet, q_aE_BadLetter, q_aE_BadStanding, q_aE_BadRule, q_aE_AlphabetsDiffer, q_ty_BadLetter, q_kcE_BadLetter, q_gaE_BadLetter, q_ggE_BadLetter, q_sbE_BadLetter, q_hdE_BadLetter, q_caE_BadLetter, q_mrE_BadLetter, q_xL_BadLetter, q_saE_BadLetter, q_iE_BadLetter, q_tiE_BadLetter, q_kpE_BadLetter, q_nfE_BadLetter_index, q_kt_BadLetter_PressError, q_kt_BadLetter_BadAlphabet, q_kt_BadLetter_BadLetter, q_kt_BadLetter_BadStanding, q_kt_BadLetter_BadRule, q_kt_BadLetter_AlphabetsDiffer, q_kt_BadLetter_VE, q_ex_BadLetter_PressError, q_ty_AlphabetsDiffer, q_kcE_AlphabetsDiffer, q_gaE_AlphabetsDiffer, q_ggE_AlphabetsDiffer, q_sbE_AlphabetsDiffer, q_hdE_AlphabetsDiffer, q_caE_AlphabetsDiffer, q_mrE_AlphabetsDiffer, q_xL_AlphabetsDiffer, q_saE_AlphabetsDiffer, q_iE_AlphabetsDiffer, q_tiE_AlphabetsDiffer, q_kpE_AlphabetsDiffer, q_nfE_AlphabetsDiffer_one, q_nfE_AlphabetsDiffer_two, q_kt_AlphabetsDiffer_PressError, q_kt_AlphabetsDiffer_BadAlphabet, q_kt_AlphabetsDiffer_BadLetter, q_kt_AlphabetsDiffer_BadStanding]
def q_kt_AlphabetsDiffer_BadRule : Fc := fun K => obB (PySem.W.kitOne K (.ref (He.ga K "AlphabetsDiffer")) (.ref (He.ga K "BadRule"))) false
def q_kt_AlphabetsDiffer_AlphabetsDiffer : Fc := fun K => obB (PySem.W.kitOne K (.ref (He.ga K "AlphabetsDiffer")) (.ref (He.ga K "AlphabetsDiffer"))) true
def q_kt_AlphabetsDiffer_VE : Fc := fun K => obB (PySem.W.kitOne K (.ref (He.ga K "AlphabetsDiffer")) (.type "ValueError")) true
def q_ex_AlphabetsDiffer_PressError : Fc := fun K => obB (PySem.W.exmOne K (.ref (He.ga K "AlphabetsDiffer")) (.ref (He.ga K "PressError"))) true
def q_aC_Machine : Fc := fun K => He.eqO (PySem.W.nsIn K mainGlobals "Machine") (some (some (.ref (He.ga K "Machine"))))
def q_pg_Machine : Fc := fun K => PySem.W.plainGet K (He.ga K "Machine") Str.empty
def q_hd_Machine : Fc := fun K => PySem.W.hasDictIn K (He.ga K "Machine")
def q_po_Machine : Fc := fun K => PySem.W.plainOver K (He.ga K "Machine")
def q_sa_Machine : Fc := fun K => He.eqO (PySem.W.findIn K (.ref (He.ga K "Machine")) "__setattr__") (some (some (.builtin "object.__setattr__")))
def q_mk_Machine : Fc := fun K => PySem.W.makesIn K (He.ga K "Machine")
def q_kc_Machine : Fc := fun K => PySem.W.keepIn K (.ref (He.ga K "Machine"))
def q_n_Machine_alphabet : Fc := fun K => He.eqO (PySem.W.findIn K (.ref (He.ga K "Machine")) "alphabet") (some none)
def q_n_Machine_rules : Fc := fun K => He.eqO (PySem.W.findIn K (.ref (He.ga K "Machine")) "rules") (some none)
def q_n_Machine_standings : Fc := fun K => He.eqO (PySem.W.findIn K (.ref (He.ga K "Machine")) "standings") (some none)
def q_n_Machine_reached : Fc := fun K => He.eqO (PySem.W.findIn K (.ref (He.ga K "Machine")) "reached") (some none)
def q_a46 : Fc := fun K => He.eqO (PySem.W.findIn K (.ref (He.ga K "Machine")) "__init__") (some (some (.ref (He.fAd K ("Machine", some "__init__")))))
def q_i46 : Fc := fun K => PySem.W.isFn K (.ref (He.fAd K ("Machine", some "__init__")))
def q_k46 : Fc := fun K => PySem.W.keepIn K (.ref (He.fAd K ("Machine", some "__init__")))
def q_w47 : Fc := fun K => He5.wrapB K (He.ga K "Machine") "staticmethod" "staticmethod.__get__" "plain"
def q_k47 : Fc := fun K => PySem.W.keepIn K (.ref (He5.wf K (He.ga K "Machine") "staticmethod" "plain"))
def q_a48 : Fc := fun K => He.eqO (PySem.W.findIn K (.ref (He.ga K "Machine")) "run") (some (some (.ref (He.fAd K ("Machine", some "run")))))
def q_i48 : Fc := fun K => PySem.W.isFn K (.ref (He.fAd K ("Machine", some "run")))
def q_k48 : Fc := fun K => PySem.W.keepIn K (.ref (He.fAd K ("Machine", some "run")))
def q_a49 : Fc := fun K => He.eqO (PySem.W.findIn K (.ref (He.ga K "Machine")) "last_after") (some (some (.ref (He.fAd K ("Machine", some "last_after")))))
def q_i49 : Fc := fun K => PySem.W.isFn K (.ref (He.fAd K ("Machine", some "last_after")))
def q_k49 : Fc := fun K => PySem.W.keepIn K (.ref (He.fAd K ("Machine", some "last_after")))
def q_rd_Machine : Fc := fun K => PySem.W.readsIn K (He.ga K "Machine") (.type "type")
def q_rg_Machine : Fc := fun K => He.eqO (PySem.W.specialIn K (.ref (He.ga K "Machine")) "__getattribute__") (some (some (.builtin "type.__getattribute__")))
def q_z_ValueError : Fc := fun K => He.eqO (PySem.W.nsIn K mainGlobals "ValueError") (some none)
def q_z_all : Fc := fun K => He.eqO (PySem.W.nsIn K mainGlobals "all") (some none)
def q_z_bool : Fc := fun K => He.eqO (PySem.W.nsIn K mainGlobals "bool") (some none)
def q_z_enumerate : Fc := fun K => He.eqO (PySem.W.nsIn K mainGlobals "enumerate") (some none)
def q_z_int : Fc := fun K => He.eqO (PySem.W.nsIn K mainGlobals "int") (some none)
def q_z_isinstance : Fc := fun K => He.eqO (PySem.W.nsIn K mainGlobals "isinstance") (some none)
def q_z_len : Fc := fun K => He.eqO (PySem.W.nsIn K mainGlobals "len") (some none)
def q_z_list : Fc := fun K => He.eqO (PySem.W.nsIn K mainGlobals "list") (some none)
def q_z_max : Fc := fun K => He.eqO (PySem.W.nsIn K mainGlobals "max") (some none)
def q_z_min : Fc := fun K => He.eqO (PySem.W.nsIn K mainGlobals "min") (some none)
def q_z_range : Fc := fun K => He.eqO (PySem.W.nsIn K mainGlobals "range") (some none)
def q_z_sorted : Fc := fun K => He.eqO (PySem.W.nsIn K mainGlobals "sorted") (some none)
def q_z_str : Fc := fun K => He.eqO (PySem.W.nsIn K mainGlobals "str") (some none)
def q_z_tuple : Fc := fun K => He.eqO (PySem.W.nsIn K mainGlobals "tuple") (some none)
def q_z_zip : Fc := fun K => He.eqO (PySem.W.nsIn K mainGlobals "zip") (some none)
def q_g_LETTERS : Fc := fun K => strB K "LETTERS" (Str.ofString "0123456789abcdefghijklmnopqrstuvwxyz")
def q_g_MOST_LETTERS : Fc := fun K => intB K "MOST_LETTERS" 6
def qs_3 : List Fc := [q_kt_AlphabetsDiffer_BadRule, q_kt_AlphabetsDiffer_AlphabetsDiffer, q_kt_AlphabetsDiffer_VE, q_ex_AlphabetsDiffer_PressError, q_aC_Machine, q_pg_Machine, q_hd_Machine, q_po_Machine, q_sa_Machine, q_mk_Machine, q_kc_Machine, q_n_Machine_alphabet, q_n_Machine_rules, q_n_Machine_standings, q_n_Machine_reached, q_a46, q_i46, q_k46, q_w47, q_k47, q_a48, q_i48, q_k48, q_a49, q_i49, q_k49, q_rd_Machine, q_rg_Machine, q_z_ValueError, q_z_all, q_z_bool, q_z_enumerate, q_z_int, q_z_isinstance, q_z_len, q_z_list, q_z_max, q_z_min, q_z_range, q_z_sorted, q_z_str, q_z_tuple, q_z_zip, q_g_LETTERS, q_g_MOST_LETTERS]
def qs : List (List Fc) := [qs_0, qs_1, qs_2, qs_3]
def fd_0 : He5.DefA := { at_ := fun K => (He.fAd K ("is_alphabet", none)), name := "is_alphabet", qual := "is_alphabet", params := defArgs s_is_alphabet, body := defBody s_is_alphabet, scope := defScope s_is_alphabet }
def fd_1 : He5.DefA := { at_ := fun K => (He.fAd K ("check_alphabet", none)), name := "check_alphabet", qual := "check_alphabet", params := defArgs s_check_alphabet, body := defBody s_check_alphabet, scope := defScope s_check_alphabet }
def fd_2 : He5.DefA := { at_ := fun K => (He.fAd K ("check_text", none)), name := "check_text", qual := "check_text", params := defArgs s_check_text, body := defBody s_check_text, scope := defScope s_check_text }
def fd_3 : He5.DefA := { at_ := fun K => (He.fAd K ("check_same_alphabet", none)), name := "check_same_alphabet", qual := "check_same_alphabet", params := defArgs s_check_same_alphabet, body := defBody s_check_same_alphabet, scope := defScope s_check_same_alphabet }
def fd_4 : He5.DefA := { at_ := fun K => (He.fAd K ("is_whole", none)), name := "is_whole", qual := "is_whole", params := defArgs s_is_whole, body := defBody s_is_whole, scope := defScope s_is_whole }
def fd_5 : He5.DefA := { at_ := fun K => (He.fAd K ("is_number_below", none)), name := "is_number_below", qual := "is_number_below", params := defArgs s_is_number_below, body := defBody s_is_number_below, scope := defScope s_is_number_below }
def fd_6 : He5.DefA := { at_ := fun K => (He.fAd K ("is_bits", none)), name := "is_bits", qual := "is_bits", params := defArgs s_is_bits, body := defBody s_is_bits, scope := defScope s_is_bits }
def fd_7 : He5.DefA := { at_ := fun K => (He.fAd K ("as_tuples", none)), name := "as_tuples", qual := "as_tuples", params := defArgs s_as_tuples, body := defBody s_as_tuples, scope := defScope s_as_tuples }
def fd_8 : He5.DefA := { at_ := fun K => (He.fAd K ("first_of_classes", none)), name := "first_of_classes", qual := "first_of_classes", params := defArgs s_first_of_classes, body := defBody s_first_of_classes, scope := defScope s_first_of_classes }
def fd_9 : He5.DefA := { at_ := fun K => (He.fAd K ("reached_in", none)), name := "reached_in", qual := "reached_in", params := defArgs s_reached_in, body := defBody s_reached_in, scope := defScope s_reached_in }
def fd_10 : He5.DefA := { at_ := fun K => (He.fAd K ("width", none)), name := "width", qual := "width", params := defArgs s_width, body := defBody s_width, scope := defScope s_width }
def fd_11 : He5.DefA := { at_ := fun K => (He.fAd K ("number_bits", none)), name := "number_bits", qual := "number_bits", params := defArgs s_number_bits, body := defBody s_number_bits, scope := defScope s_number_bits }
def fd_12 : He5.DefA := { at_ := fun K => (He.fAd K ("index_words", none)), name := "index_words", qual := "index_words", params := defArgs s_index_words, body := defBody s_index_words, scope := defScope s_index_words }
def fd_13 : He5.DefA := { at_ := fun K => (He.fAd K ("check_rules", none)), name := "check_rules", qual := "check_rules", params := defArgs s_check_rules, body := defBody s_check_rules, scope := defScope s_check_rules }
def fd_14 : He5.DefA := { at_ := fun K => (He.fAd K ("check_row_lengths", none)), name := "check_row_lengths", qual := "check_row_lengths", params := defArgs s_check_row_lengths, body := defBody s_check_row_lengths, scope := defScope s_check_row_lengths }
def fd_15 : He5.DefA := { at_ := fun K => (He.fAd K ("nexts_of", none)), name := "nexts_of", qual := "nexts_of", params := defArgs s_nexts_of, body := defBody s_nexts_of, scope := defScope s_nexts_of }
def fd_16 : He5.DefA := { at_ := fun K => (He.fAd K ("written_by", none)), name := "written_by", qual := "written_by", params := defArgs s_written_by, body := defBody s_written_by, scope := defScope s_written_by }
def fd_17 : He5.DefA := { at_ := fun K => (He.fAd K ("is_lead_loop", none)), name := "is_lead_loop", qual := "is_lead_loop", params := defArgs s_is_lead_loop, body := defBody s_is_lead_loop, scope := defScope s_is_lead_loop }
def fd_18 : He5.DefA := { at_ := fun K => (He.fAd K ("_law_whole", none)), name := "_law_whole", qual := "_law_whole", params := defArgs s__law_whole, body := defBody s__law_whole, scope := defScope s__law_whole }
def fd_19 : He5.DefA := { at_ := fun K => (He.fAd K ("_law_cell", none)), name := "_law_cell", qual := "_law_cell", params := defArgs s__law_cell, body := defBody s__law_cell, scope := defScope s__law_cell }
def fd_20 : He5.DefA := { at_ := fun K => (He.fAd K ("_law_digits", none)), name := "_law_digits", qual := "_law_digits", params := defArgs s__law_digits, body := defBody s__law_digits, scope := defScope s__law_digits }
def fd_21 : He5.DefA := { at_ := fun K => (He.fAd K ("_law_alphabet", none)), name := "_law_alphabet", qual := "_law_alphabet", params := defArgs s__law_alphabet, body := defBody s__law_alphabet, scope := defScope s__law_alphabet }
def fd_22 : He5.DefA := { at_ := fun K => (He.fAd K ("_law_other_alphabet", none)), name := "_law_other_alphabet", qual := "_law_other_alphabet", params := defArgs s__law_other_alphabet, body := defBody s__law_other_alphabet, scope := defScope s__law_other_alphabet }
def fd_23 : He5.DefA := { at_ := fun K => (He.fAd K ("_law_width", none)), name := "_law_width", qual := "_law_width", params := defArgs s__law_width, body := defBody s__law_width, scope := defScope s__law_width }
def fd_24 : He5.DefA := { at_ := fun K => (He.fAd K ("_law_number", none)), name := "_law_number", qual := "_law_number", params := defArgs s__law_number, body := defBody s__law_number, scope := defScope s__law_number }
def fd_25 : He5.DefA := { at_ := fun K => (He.fAd K ("_law_code", none)), name := "_law_code", qual := "_law_code", params := defArgs s__law_code, body := defBody s__law_code, scope := defScope s__law_code }
def fd_26 : He5.DefA := { at_ := fun K => (He.fAd K ("_law_ring_rules", none)), name := "_law_ring_rules", qual := "_law_ring_rules", params := defArgs s__law_ring_rules, body := defBody s__law_ring_rules, scope := defScope s__law_ring_rules }
def fd_27 : He5.DefA := { at_ := fun K => (He.fAd K ("_law_free_rules", none)), name := "_law_free_rules", qual := "_law_free_rules", params := defArgs s__law_free_rules, body := defBody s__law_free_rules, scope := defScope s__law_free_rules }
def fd_28 : He5.DefA := { at_ := fun K => (He.fAd K ("_law_holding_rules", none)), name := "_law_holding_rules", qual := "_law_holding_rules", params := defArgs s__law_holding_rules, body := defBody s__law_holding_rules, scope := defScope s__law_holding_rules }
def fd_29 : He5.DefA := { at_ := fun K => (He.fAd K ("_law_grouped_rules", none)), name := "_law_grouped_rules", qual := "_law_grouped_rules", params := defArgs s__law_grouped_rules, body := defBody s__law_grouped_rules, scope := defScope s__law_grouped_rules }
def fd_30 : He5.DefA := { at_ := fun K => (He.fAd K ("_law_some_rules", none)), name := "_law_some_rules", qual := "_law_some_rules", params := defArgs s__law_some_rules, body := defBody s__law_some_rules, scope := defScope s__law_some_rules }
def fd_31 : He5.DefA := { at_ := fun K => (He.fAd K ("_law_bits", none)), name := "_law_bits", qual := "_law_bits", params := defArgs s__law_bits, body := defBody s__law_bits, scope := defScope s__law_bits }
def fd_32 : He5.DefA := { at_ := fun K => (He.fAd K ("_law_balanced_rules", none)), name := "_law_balanced_rules", qual := "_law_balanced_rules", params := defArgs s__law_balanced_rules, body := defBody s__law_balanced_rules, scope := defScope s__law_balanced_rules }
def fd_33 : He5.DefA := { at_ := fun K => (He.fAd K ("_law_burst_rules", none)), name := "_law_burst_rules", qual := "_law_burst_rules", params := defArgs s__law_burst_rules, body := defBody s__law_burst_rules, scope := defScope s__law_burst_rules }
def fd_34 : He5.DefA := { at_ := fun K => (He.fAd K ("_law_two_rules", none)), name := "_law_two_rules", qual := "_law_two_rules", params := defArgs s__law_two_rules, body := defBody s__law_two_rules, scope := defScope s__law_two_rules }
def fd_35 : He5.DefA := { at_ := fun K => (He.fAd K ("_law_race", none)), name := "_law_race", qual := "_law_race", params := defArgs s__law_race, body := defBody s__law_race, scope := defScope s__law_race }
def fd_36 : He5.DefA := { at_ := fun K => (He.fAd K ("_law_slow_rules", none)), name := "_law_slow_rules", qual := "_law_slow_rules", params := defArgs s__law_slow_rules, body := defBody s__law_slow_rules, scope := defScope s__law_slow_rules }
def fd_37 : He5.DefA := { at_ := fun K => (He.fAd K ("_law_loop", none)), name := "_law_loop", qual := "_law_loop", params := defArgs s__law_loop, body := defBody s__law_loop, scope := defScope s__law_loop }
def fd_38 : He5.DefA := { at_ := fun K => (He.fAd K ("_law_due", none)), name := "_law_due", qual := "_law_due", params := defArgs s__law_due, body := defBody s__law_due, scope := defScope s__law_due }
def fd_39 : He5.DefA := { at_ := fun K => (He.fAd K ("_law_cases", none)), name := "_law_cases", qual := "_law_cases", params := defArgs s__law_cases, body := defBody s__law_cases, scope := defScope s__law_cases }
def fd_40 : He5.DefA := { at_ := fun K => (He.fAd K ("_law_told", none)), name := "_law_told", qual := "_law_told", params := defArgs s__law_told, body := defBody s__law_told, scope := defScope s__law_told }
def fd_41 : He5.DefA := { at_ := fun K => (He.fAd K ("_law_fits", none)), name := "_law_fits", qual := "_law_fits", params := defArgs s__law_fits, body := defBody s__law_fits, scope := defScope s__law_fits }
def fd_42 : He5.DefA := { at_ := fun K => (He.fAd K ("_law_all_cases", none)), name := "_law_all_cases", qual := "_law_all_cases", params := defArgs s__law_all_cases, body := defBody s__law_all_cases, scope := defScope s__law_all_cases }
def fd_43 : He5.DefA := { at_ := fun K => (He.fAd K ("_law_spoilt", none)), name := "_law_spoilt", qual := "_law_spoilt", params := defArgs s__law_spoilt, body := defBody s__law_spoilt, scope := defScope s__law_spoilt }
def fd_44 : He5.DefA := { at_ := fun K => (He.fAd K ("_law_letters_fit", none)), name := "_law_letters_fit", qual := "_law_letters_fit", params := defArgs s__law_letters_fit, body := defBody s__law_letters_fit, scope := defScope s__law_letters_fit }
def fd_45 : He5.DefA := { at_ := fun K => (He.fAd K ("law", none)), name := "law", qual := "law", params := defArgs s_law, body := defBody s_law, scope := defScope s_law }
def fd_46 : He5.DefA := { at_ := fun K => (He.fAd K ("Machine", some "__init__")), name := "__init__", qual := "Machine.__init__", params := defArgs s_Machine___init__, body := defBody s_Machine___init__, scope := defScope s_Machine___init__ }
def fd_47 : He5.DefA := { at_ := fun K => (He5.wf K (He.ga K "Machine") "staticmethod" "plain"), name := "plain", qual := "Machine.plain", params := defArgs s_Machine_plain, body := defBody s_Machine_plain, scope := defScope s_Machine_plain }
def fd_48 : He5.DefA := { at_ := fun K => (He.fAd K ("Machine", some "run")), name := "run", qual := "Machine.run", params := defArgs s_Machine_run, body := defBody s_Machine_run, scope := defScope s_Machine_run, kwd := [("start", .int 0)] }
def fd_49 : He5.DefA := { at_ := fun K => (He.fAd K ("Machine", some "last_after")), name := "last_after", qual := "Machine.last_after", params := defArgs s_Machine_last_after, body := defBody s_Machine_last_after, scope := defScope s_Machine_last_after }
def fd_50 : He5.DefA := { at_ := fun K => (He.fAd K ("BadLetter", some "__init__")), name := "__init__", qual := "BadLetter.__init__", params := defArgs s_BadLetter___init__, body := defBody s_BadLetter___init__, scope := defScope s_BadLetter___init__ }
def fd_51 : He5.DefA := { at_ := fun K => (He.fAd K ("AlphabetsDiffer", some "__init__")), name := "__init__", qual := "AlphabetsDiffer.__init__", params := defArgs s_AlphabetsDiffer___init__, body := defBody s_AlphabetsDiffer___init__, scope := defScope s_AlphabetsDiffer___init__ }
def fns : List He5.DefA := [fd_0, fd_1, fd_2, fd_3, fd_4, fd_5, fd_6, fd_7, fd_8, fd_9, fd_10, fd_11, fd_12, fd_13, fd_14, fd_15, fd_16, fd_17, fd_18, fd_19, fd_20, fd_21, fd_22, fd_23, fd_24, fd_25, fd_26, fd_27, fd_28, fd_29, fd_30, fd_31, fd_32, fd_33, fd_34, fd_35, fd_36, fd_37, fd_38, fd_39, fd_40, fd_41, fd_42, fd_43, fd_44, fd_45, fd_46, fd_47, fd_48, fd_49, fd_50, fd_51]
def nm_0 : List PySem.Str := ["__name__", "PressError", "BadAlphabet", "BadLetter", "BadStanding", "BadRule", "AlphabetsDiffer", "LETTERS", "MOST_LETTERS", "is_alphabet", "check_alphabet", "check_text", "check_same_alphabet", "is_whole", "is_number_below", "is_bits", "as_tuples", "first_of_classes", "reached_in", "width", "number_bits", "index_words", "Machine", "check_rules", "check_row_lengths", "nexts_of", "written_by", "pairs_in_a_row", "is_lead_loop", "_law_whole"]
def nm_1 : List PySem.Str := ["_law_cell", "_law_digits", "_law_alphabet", "_law_other_alphabet", "_law_width", "_law_number", "_law_code", "_law_ring_rules", "_law_free_rules", "_law_holding_rules", "_law_grouped_rules", "_law_some_rules", "_law_bits", "_law_balanced_rules", "_law_burst_rules", "_law_two_rules", "_law_race", "_law_slow_rules", "_law_loop", "_law_due", "_law_cases", "_law_told", "_law_fits", "_law_all_cases", "_law_spoilt", "_law_letters_fit"]
def nms : List PySem.Str := nm_0 ++ nm_1
abbrev RR : PySem.W.OpenRow := PySem.W.OpenLaw.row PySem.Challenge.rw_outpressed_k55_lead_loop_judged
abbrev qv : Program := PySem.W.view RR.prog [63]
abbrev hk : PySem.W.Hook := hookH 4 qs fns
def obT (s : PySem.W.SharedT) : He.AlD := obsHG 4 qs fns (HandSHeadRun.getT s)
theorem obT_eq (s : PySem.W.SharedT) : obT s = hk.obs s.abs := obsHG_eq (HandSHeadRun.getT_eq s)
section
open PySem.W HandSHeadRun
theorem pc_0 (w : World) : Pc RR 20000 w (fun s => (looksF RR.prog (boot_heap w.params) s.abs, seenQ qv nms (importedModules RR.prog.main.body) (fun s => xlAt qv [] s && recOk RR.toRowW.records s) s.abs)) (true, openGood qv nms) := by
  intro os
  kernel_rfl
theorem pq_0 (w : World) : Pc RR 20000 w (fun s => qs_0.all fun f => f (KofS 4 s)) true := by
  intro os
  kernel_rfl
theorem pq_1 (w : World) : Pc RR 20000 w (fun s => qs_1.all fun f => f (KofS 4 s)) true := by
  intro os
  kernel_rfl
theorem pq_2 (w : World) : Pc RR 20000 w (fun s => qs_2.all fun f => f (KofS 4 s)) true := by
  intro os
  kernel_rfl
theorem pq_3 (w : World) : Pc RR 20000 w (fun s => qs_3.all fun f => f (KofS 4 s)) true := by
  intro os
  kernel_rfl
theorem pc_n (w : World) : Pc RR 20000 w (fun s => obsN fns (KofS 4 s)) (He5.valA fns) := by
  intro os
  kernel_rfl
theorem runs (w : World) : HandSHeadRun.RunEq RR qv hk obT 20000 nms w := run_join (pc_0 w) (fun l hl => by
  simp only [qs, List.mem_cons, List.not_mem_nil, or_false] at hl
  rcases hl with rfl | rfl | rfl | rfl
  · exact pq_0 w
  · exact pq_1 w
  · exact pq_2 w
  · exact pq_3 w) (pc_n w)
end
theorem facts {l : PySem.W.OpenLaw} {w : World} {K : PySem.W.Frag} {h : Heap} {mg : Str → Option Value} {fa : Addr} (X : K.In h) (c : SaysH qs fns K) (G : h.Ns mainGlobals mg) (hfa : mg "law" = some (.ref fa)) : ∃ fd : FuncData, (∀ (s : Shared) (v : Value), BindsTo s fd ⟨[v], []⟩ [("script", v)]) ∧ ∀ base : Heap, K.In base → base.Ns mainGlobals mg → FnOk l.prog w K mg base CX0 10 fa fd ["script"] (spLaw K) := by
  obtain ⟨_, _, _, _, _, _, _, _, _, l0, c0⟩ := lk_of (st := s_is_alphabet) (c.def_ 0 (d := fd_0) rfl)
  obtain ⟨_, _, _, _, _, _, _, _, _, l1, c1⟩ := lk_of (st := s_check_alphabet) (c.def_ 1 (d := fd_1) rfl)
  obtain ⟨_, _, _, _, _, _, _, _, _, l2, c2⟩ := lk_of (st := s_check_text) (c.def_ 2 (d := fd_2) rfl)
  obtain ⟨_, _, _, _, _, _, _, _, _, l3, c3⟩ := lk_of (st := s_check_same_alphabet) (c.def_ 3 (d := fd_3) rfl)
  obtain ⟨_, _, _, _, _, _, _, _, _, l4, c4⟩ := lk_of (st := s_is_whole) (c.def_ 4 (d := fd_4) rfl)
  obtain ⟨_, _, _, _, _, _, _, _, _, l5, c5⟩ := lk_of (st := s_is_number_below) (c.def_ 5 (d := fd_5) rfl)
  obtain ⟨_, _, _, _, _, _, _, _, _, l6, c6⟩ := lk_of (st := s_is_bits) (c.def_ 6 (d := fd_6) rfl)
  obtain ⟨_, _, _, _, _, _, _, _, _, l7, c7⟩ := lk_of (st := s_as_tuples) (c.def_ 7 (d := fd_7) rfl)
  obtain ⟨_, _, _, _, _, _, _, _, _, l8, c8⟩ := lk_of (st := s_first_of_classes) (c.def_ 8 (d := fd_8) rfl)
  obtain ⟨_, _, _, _, _, _, _, _, _, l9, c9⟩ := lk_of (st := s_reached_in) (c.def_ 9 (d := fd_9) rfl)
  obtain ⟨_, _, _, _, _, _, _, _, _, l10, c10⟩ := lk_of (st := s_width) (c.def_ 10 (d := fd_10) rfl)
  obtain ⟨_, _, _, _, _, _, _, _, _, l11, c11⟩ := lk_of (st := s_number_bits) (c.def_ 11 (d := fd_11) rfl)
  obtain ⟨_, _, _, _, _, _, _, _, _, l12, c12⟩ := lk_of (st := s_index_words) (c.def_ 12 (d := fd_12) rfl)
  obtain ⟨_, _, _, _, _, _, _, _, _, l13, c13⟩ := lk_of (st := s_check_rules) (c.def_ 13 (d := fd_13) rfl)
  obtain ⟨_, _, _, _, _, _, _, _, _, l14, c14⟩ := lk_of (st := s_check_row_lengths) (c.def_ 14 (d := fd_14) rfl)
  obtain ⟨_, _, _, _, _, _, _, _, _, l15, c15⟩ := lk_of (st := s_nexts_of) (c.def_ 15 (d := fd_15) rfl)
  obtain ⟨_, _, _, _, _, _, _, _, _, l16, c16⟩ := lk_of (st := s_written_by) (c.def_ 16 (d := fd_16) rfl)
  obtain ⟨_, _, _, _, _, _, _, _, _, l17, c17⟩ := lk_of (st := s_is_lead_loop) (c.def_ 17 (d := fd_17) rfl)
  obtain ⟨_, _, _, _, _, _, _, _, _, l18, c18⟩ := lk_of (st := s__law_whole) (c.def_ 18 (d := fd_18) rfl)
  obtain ⟨_, _, _, _, _, _, _, _, _, l19, c19⟩ := lk_of (st := s__law_cell) (c.def_ 19 (d := fd_19) rfl)
  obtain ⟨_, _, _, _, _, _, _, _, _, l20, c20⟩ := lk_of (st := s__law_digits) (c.def_ 20 (d := fd_20) rfl)
  obtain ⟨_, _, _, _, _, _, _, _, _, l21, c21⟩ := lk_of (st := s__law_alphabet) (c.def_ 21 (d := fd_21) rfl)
  obtain ⟨_, _, _, _, _, _, _, _, _, l22, c22⟩ := lk_of (st := s__law_other_alphabet) (c.def_ 22 (d := fd_22) rfl)
  obtain ⟨_, _, _, _, _, _, _, _, _, l23, c23⟩ := lk_of (st := s__law_width) (c.def_ 23 (d := fd_23) rfl)
  obtain ⟨_, _, _, _, _, _, _, _, _, l24, c24⟩ := lk_of (st := s__law_number) (c.def_ 24 (d := fd_24) rfl)
  obtain ⟨_, _, _, _, _, _, _, _, _, l25, c25⟩ := lk_of (st := s__law_code) (c.def_ 25 (d := fd_25) rfl)
  obtain ⟨_, _, _, _, _, _, _, _, _, l26, c26⟩ := lk_of (st := s__law_ring_rules) (c.def_ 26 (d := fd_26) rfl)
  obtain ⟨_, _, _, _, _, _, _, _, _, l27, c27⟩ := lk_of (st := s__law_free_rules) (c.def_ 27 (d := fd_27) rfl)
  obtain ⟨_, _, _, _, _, _, _, _, _, l28, c28⟩ := lk_of (st := s__law_holding_rules) (c.def_ 28 (d := fd_28) rfl)
  obtain ⟨_, _, _, _, _, _, _, _, _, l29, c29⟩ := lk_of (st := s__law_grouped_rules) (c.def_ 29 (d := fd_29) rfl)
  obtain ⟨_, _, _, _, _, _, _, _, _, l30, c30⟩ := lk_of (st := s__law_some_rules) (c.def_ 30 (d := fd_30) rfl)
  obtain ⟨_, _, _, _, _, _, _, _, _, l31, c31⟩ := lk_of (st := s__law_bits) (c.def_ 31 (d := fd_31) rfl)
  obtain ⟨_, _, _, _, _, _, _, _, _, l32, c32⟩ := lk_of (st := s__law_balanced_rules) (c.def_ 32 (d := fd_32) rfl)
  obtain ⟨_, _, _, _, _, _, _, _, _, l33, c33⟩ := lk_of (st := s__law_burst_rules) (c.def_ 33 (d := fd_33) rfl)
  obtain ⟨_, _, _, _, _, _, _, _, _, l34, c34⟩ := lk_of (st := s__law_two_rules) (c.def_ 34 (d := fd_34) rfl)
  obtain ⟨_, _, _, _, _, _, _, _, _, l35, c35⟩ := lk_of (st := s__law_race) (c.def_ 35 (d := fd_35) rfl)
  obtain ⟨_, _, _, _, _, _, _, _, _, l36, c36⟩ := lk_of (st := s__law_slow_rules) (c.def_ 36 (d := fd_36) rfl)
  obtain ⟨_, _, _, _, _, _, _, _, _, l37, c37⟩ := lk_of (st := s__law_loop) (c.def_ 37 (d := fd_37) rfl)
  obtain ⟨_, _, _, _, _, _, _, _, _, l38, c38⟩ := lk_of (st := s__law_due) (c.def_ 38 (d := fd_38) rfl)
  obtain ⟨_, _, _, _, _, _, _, _, _, l39, c39⟩ := lk_of (st := s__law_cases) (c.def_ 39 (d := fd_39) rfl)
  obtain ⟨_, _, _, _, _, _, _, _, _, l40, c40⟩ := lk_of (st := s__law_told) (c.def_ 40 (d := fd_40) rfl)
  obtain ⟨_, _, _, _, _, _, _, _, _, l41, c41⟩ := lk_of (st := s__law_fits) (c.def_ 41 (d := fd_41) rfl)
  obtain ⟨_, _, _, _, _, _, _, _, _, l42, c42⟩ := lk_of (st := s__law_all_cases) (c.def_ 42 (d := fd_42) rfl)
  obtain ⟨_, _, _, _, _, _, _, _, _, l43, c43⟩ := lk_of (st := s__law_spoilt) (c.def_ 43 (d := fd_43) rfl)
  obtain ⟨_, _, _, _, _, _, _, _, _, l44, c44⟩ := lk_of (st := s__law_letters_fit) (c.def_ 44 (d := fd_44) rfl)
  obtain ⟨_, _, _, _, _, _, _, _, _, l45, c45⟩ := lk_of (st := s_law) (c.def_ 45 (d := fd_45) rfl)
  obtain ⟨_, _, _, _, _, _, _, _, _, l46, c46⟩ := lk_of (st := s_Machine___init__) (c.def_ 46 (d := fd_46) rfl)
  obtain ⟨_, _, _, _, _, _, _, _, _, l47, c47⟩ := lk_of (st := s_Machine_plain) (c.def_ 47 (d := fd_47) rfl)
  have l48 := kwF_of (st := s_Machine_run) (kws := [("start", .int 0)]) (by simp) (c.def_ 48 (d := fd_48) rfl)
  obtain ⟨_, _, _, _, _, _, _, _, _, l49, c49⟩ := lk_of (st := s_Machine_last_after) (c.def_ 49 (d := fd_49) rfl)
  obtain ⟨_, _, _, _, _, _, _, _, _, lE_BadLetter, ccE_BadLetter⟩ := lk_of (st := s_BadLetter___init__) (c.def_ 50 (d := fd_50) rfl)
  obtain ⟨_, _, _, _, _, _, _, _, _, lE_AlphabetsDiffer, ccE_AlphabetsDiffer⟩ := lk_of (st := s_AlphabetsDiffer___init__) (c.def_ 51 (d := fd_51) rfl)
  have a0 : PySem.W.nsIn K mainGlobals "is_alphabet" = some (some (.ref (He.fAd K ("is_alphabet", none)))) := He.eqO_ok (c.fact 0 0 (f := q_a0) rfl rfl)
  have k0 : PySem.W.keepIn K (.ref (He.fAd K ("is_alphabet", none))) = true := c.fact 0 1 (f := q_k0) rfl rfl
  have a1 : PySem.W.nsIn K mainGlobals "check_alphabet" = some (some (.ref (He.fAd K ("check_alphabet", none)))) := He.eqO_ok (c.fact 0 2 (f := q_a1) rfl rfl)
  have k1 : PySem.W.keepIn K (.ref (He.fAd K ("check_alphabet", none))) = true := c.fact 0 3 (f := q_k1) rfl rfl
  have a2 : PySem.W.nsIn K mainGlobals "check_text" = some (some (.ref (He.fAd K ("check_text", none)))) := He.eqO_ok (c.fact 0 4 (f := q_a2) rfl rfl)
  have k2 : PySem.W.keepIn K (.ref (He.fAd K ("check_text", none))) = true := c.fact 0 5 (f := q_k2) rfl rfl
  have a3 : PySem.W.nsIn K mainGlobals "check_same_alphabet" = some (some (.ref (He.fAd K ("check_same_alphabet", none)))) := He.eqO_ok (c.fact 0 6 (f := q_a3) rfl rfl)
  have k3 : PySem.W.keepIn K (.ref (He.fAd K ("check_same_alphabet", none))) = true := c.fact 0 7 (f := q_k3) rfl rfl
  have a4 : PySem.W.nsIn K mainGlobals "is_whole" = some (some (.ref (He.fAd K ("is_whole", none)))) := He.eqO_ok (c.fact 0 8 (f := q_a4) rfl rfl)
  have k4 : PySem.W.keepIn K (.ref (He.fAd K ("is_whole", none))) = true := c.fact 0 9 (f := q_k4) rfl rfl
  have a5 : PySem.W.nsIn K mainGlobals "is_number_below" = some (some (.ref (He.fAd K ("is_number_below", none)))) := He.eqO_ok (c.fact 0 10 (f := q_a5) rfl rfl)
  have k5 : PySem.W.keepIn K (.ref (He.fAd K ("is_number_below", none))) = true := c.fact 0 11 (f := q_k5) rfl rfl
  have a6 : PySem.W.nsIn K mainGlobals "is_bits" = some (some (.ref (He.fAd K ("is_bits", none)))) := He.eqO_ok (c.fact 0 12 (f := q_a6) rfl rfl)
  have k6 : PySem.W.keepIn K (.ref (He.fAd K ("is_bits", none))) = true := c.fact 0 13 (f := q_k6) rfl rfl
  have a7 : PySem.W.nsIn K mainGlobals "as_tuples" = some (some (.ref (He.fAd K ("as_tuples", none)))) := He.eqO_ok (c.fact 0 14 (f := q_a7) rfl rfl)
  have k7 : PySem.W.keepIn K (.ref (He.fAd K ("as_tuples", none))) = true := c.fact 0 15 (f := q_k7) rfl rfl
  have a8 : PySem.W.nsIn K mainGlobals "first_of_classes" = some (some (.ref (He.fAd K ("first_of_classes", none)))) := He.eqO_ok (c.fact 0 16 (f := q_a8) rfl rfl)
  have k8 : PySem.W.keepIn K (.ref (He.fAd K ("first_of_classes", none))) = true := c.fact 0 17 (f := q_k8) rfl rfl
  have a9 : PySem.W.nsIn K mainGlobals "reached_in" = some (some (.ref (He.fAd K ("reached_in", none)))) := He.eqO_ok (c.fact 0 18 (f := q_a9) rfl rfl)
  have k9 : PySem.W.keepIn K (.ref (He.fAd K ("reached_in", none))) = true := c.fact 0 19 (f := q_k9) rfl rfl
  have a10 : PySem.W.nsIn K mainGlobals "width" = some (some (.ref (He.fAd K ("width", none)))) := He.eqO_ok (c.fact 0 20 (f := q_a10) rfl rfl)
  have k10 : PySem.W.keepIn K (.ref (He.fAd K ("width", none))) = true := c.fact 0 21 (f := q_k10) rfl rfl
  have a11 : PySem.W.nsIn K mainGlobals "number_bits" = some (some (.ref (He.fAd K ("number_bits", none)))) := He.eqO_ok (c.fact 0 22 (f := q_a11) rfl rfl)
  have k11 : PySem.W.keepIn K (.ref (He.fAd K ("number_bits", none))) = true := c.fact 0 23 (f := q_k11) rfl rfl
  have a12 : PySem.W.nsIn K mainGlobals "index_words" = some (some (.ref (He.fAd K ("index_words", none)))) := He.eqO_ok (c.fact 0 24 (f := q_a12) rfl rfl)
  have k12 : PySem.W.keepIn K (.ref (He.fAd K ("index_words", none))) = true := c.fact 0 25 (f := q_k12) rfl rfl
  have a13 : PySem.W.nsIn K mainGlobals "check_rules" = some (some (.ref (He.fAd K ("check_rules", none)))) := He.eqO_ok (c.fact 0 26 (f := q_a13) rfl rfl)
  have k13 : PySem.W.keepIn K (.ref (He.fAd K ("check_rules", none))) = true := c.fact 0 27 (f := q_k13) rfl rfl
  have a14 : PySem.W.nsIn K mainGlobals "check_row_lengths" = some (some (.ref (He.fAd K ("check_row_lengths", none)))) := He.eqO_ok (c.fact 0 28 (f := q_a14) rfl rfl)
  have k14 : PySem.W.keepIn K (.ref (He.fAd K ("check_row_lengths", none))) = true := c.fact 0 29 (f := q_k14) rfl rfl
  have a15 : PySem.W.nsIn K mainGlobals "nexts_of" = some (some (.ref (He.fAd K ("nexts_of", none)))) := He.eqO_ok (c.fact 0 30 (f := q_a15) rfl rfl)
  have k15 : PySem.W.keepIn K (.ref (He.fAd K ("nexts_of", none))) = true := c.fact 0 31 (f := q_k15) rfl rfl
  have a16 : PySem.W.nsIn K mainGlobals "written_by" = some (some (.ref (He.fAd K ("written_by", none)))) := He.eqO_ok (c.fact 0 32 (f := q_a16) rfl rfl)
  have k16 : PySem.W.keepIn K (.ref (He.fAd K ("written_by", none))) = true := c.fact 0 33 (f := q_k16) rfl rfl
  have a17 : PySem.W.nsIn K mainGlobals "is_lead_loop" = some (some (.ref (He.fAd K ("is_lead_loop", none)))) := He.eqO_ok (c.fact 0 34 (f := q_a17) rfl rfl)
  have k17 : PySem.W.keepIn K (.ref (He.fAd K ("is_lead_loop", none))) = true := c.fact 0 35 (f := q_k17) rfl rfl
  have a18 : PySem.W.nsIn K mainGlobals "_law_whole" = some (some (.ref (He.fAd K ("_law_whole", none)))) := He.eqO_ok (c.fact 0 36 (f := q_a18) rfl rfl)
  have k18 : PySem.W.keepIn K (.ref (He.fAd K ("_law_whole", none))) = true := c.fact 0 37 (f := q_k18) rfl rfl
  have a19 : PySem.W.nsIn K mainGlobals "_law_cell" = some (some (.ref (He.fAd K ("_law_cell", none)))) := He.eqO_ok (c.fact 0 38 (f := q_a19) rfl rfl)
  have k19 : PySem.W.keepIn K (.ref (He.fAd K ("_law_cell", none))) = true := c.fact 0 39 (f := q_k19) rfl rfl
  have a20 : PySem.W.nsIn K mainGlobals "_law_digits" = some (some (.ref (He.fAd K ("_law_digits", none)))) := He.eqO_ok (c.fact 0 40 (f := q_a20) rfl rfl)
  have k20 : PySem.W.keepIn K (.ref (He.fAd K ("_law_digits", none))) = true := c.fact 0 41 (f := q_k20) rfl rfl
  have a21 : PySem.W.nsIn K mainGlobals "_law_alphabet" = some (some (.ref (He.fAd K ("_law_alphabet", none)))) := He.eqO_ok (c.fact 0 42 (f := q_a21) rfl rfl)
  have k21 : PySem.W.keepIn K (.ref (He.fAd K ("_law_alphabet", none))) = true := c.fact 0 43 (f := q_k21) rfl rfl
  have a22 : PySem.W.nsIn K mainGlobals "_law_other_alphabet" = some (some (.ref (He.fAd K ("_law_other_alphabet", none)))) := He.eqO_ok (c.fact 0 44 (f := q_a22) rfl rfl)
  have k22 : PySem.W.keepIn K (.ref (He.fAd K ("_law_other_alphabet", none))) = true := c.fact 0 45 (f := q_k22) rfl rfl
  have a23 : PySem.W.nsIn K mainGlobals "_law_width" = some (some (.ref (He.fAd K ("_law_width", none)))) := He.eqO_ok (c.fact 0 46 (f := q_a23) rfl rfl)
  have k23 : PySem.W.keepIn K (.ref (He.fAd K ("_law_width", none))) = true := c.fact 1 0 (f := q_k23) rfl rfl
  have a24 : PySem.W.nsIn K mainGlobals "_law_number" = some (some (.ref (He.fAd K ("_law_number", none)))) := He.eqO_ok (c.fact 1 1 (f := q_a24) rfl rfl)
  have k24 : PySem.W.keepIn K (.ref (He.fAd K ("_law_number", none))) = true := c.fact 1 2 (f := q_k24) rfl rfl
  have a25 : PySem.W.nsIn K mainGlobals "_law_code" = some (some (.ref (He.fAd K ("_law_code", none)))) := He.eqO_ok (c.fact 1 3 (f := q_a25) rfl rfl)
  have k25 : PySem.W.keepIn K (.ref (He.fAd K ("_law_code", none))) = true := c.fact 1 4 (f := q_k25) rfl rfl
  have a26 : PySem.W.nsIn K mainGlobals "_law_ring_rules" = some (some (.ref (He.fAd K ("_law_ring_rules", none)))) := He.eqO_ok (c.fact 1 5 (f := q_a26) rfl rfl)
  have k26 : PySem.W.keepIn K (.ref (He.fAd K ("_law_ring_rules", none))) = true := c.fact 1 6 (f := q_k26) rfl rfl
  have a27 : PySem.W.nsIn K mainGlobals "_law_free_rules" = some (some (.ref (He.fAd K ("_law_free_rules", none)))) := He.eqO_ok (c.fact 1 7 (f := q_a27) rfl rfl)
  have k27 : PySem.W.keepIn K (.ref (He.fAd K ("_law_free_rules", none))) = true := c.fact 1 8 (f := q_k27) rfl rfl
  have a28 : PySem.W.nsIn K mainGlobals "_law_holding_rules" = some (some (.ref (He.fAd K ("_law_holding_rules", none)))) := He.eqO_ok (c.fact 1 9 (f := q_a28) rfl rfl)
  have k28 : PySem.W.keepIn K (.ref (He.fAd K ("_law_holding_rules", none))) = true := c.fact 1 10 (f := q_k28) rfl rfl
  have a29 : PySem.W.nsIn K mainGlobals "_law_grouped_rules" = some (some (.ref (He.fAd K ("_law_grouped_rules", none)))) := He.eqO_ok (c.fact 1 11 (f := q_a29) rfl rfl)
  have k29 : PySem.W.keepIn K (.ref (He.fAd K ("_law_grouped_rules", none))) = true := c.fact 1 12 (f := q_k29) rfl rfl
  have a30 : PySem.W.nsIn K mainGlobals "_law_some_rules" = some (some (.ref (He.fAd K ("_law_some_rules", none)))) := He.eqO_ok (c.fact 1 13 (f := q_a30) rfl rfl)
  have k30 : PySem.W.keepIn K (.ref (He.fAd K ("_law_some_rules", none))) = true := c.fact 1 14 (f := q_k30) rfl rfl
  have a31 : PySem.W.nsIn K mainGlobals "_law_bits" = some (some (.ref (He.fAd K ("_law_bits", none)))) := He.eqO_ok (c.fact 1 15 (f := q_a31) rfl rfl)
  have k31 : PySem.W.keepIn K (.ref (He.fAd K ("_law_bits", none))) = true := c.fact 1 16 (f := q_k31) rfl rfl
  have a32 : PySem.W.nsIn K mainGlobals "_law_balanced_rules" = some (some (.ref (He.fAd K ("_law_balanced_rules", none)))) := He.eqO_ok (c.fact 1 17 (f := q_a32) rfl rfl)
  have k32 : PySem.W.keepIn K (.ref (He.fAd K ("_law_balanced_rules", none))) = true := c.fact 1 18 (f := q_k32) rfl rfl
  have a33 : PySem.W.nsIn K mainGlobals "_law_burst_rules" = some (some (.ref (He.fAd K ("_law_burst_rules", none)))) := He.eqO_ok (c.fact 1 19 (f := q_a33) rfl rfl)
  have k33 : PySem.W.keepIn K (.ref (He.fAd K ("_law_burst_rules", none))) = true := c.fact 1 20 (f := q_k33) rfl rfl
  have a34 : PySem.W.nsIn K mainGlobals "_law_two_rules" = some (some (.ref (He.fAd K ("_law_two_rules", none)))) := He.eqO_ok (c.fact 1 21 (f := q_a34) rfl rfl)
  have k34 : PySem.W.keepIn K (.ref (He.fAd K ("_law_two_rules", none))) = true := c.fact 1 22 (f := q_k34) rfl rfl
  have a35 : PySem.W.nsIn K mainGlobals "_law_race" = some (some (.ref (He.fAd K ("_law_race", none)))) := He.eqO_ok (c.fact 1 23 (f := q_a35) rfl rfl)
  have k35 : PySem.W.keepIn K (.ref (He.fAd K ("_law_race", none))) = true := c.fact 1 24 (f := q_k35) rfl rfl
  have a36 : PySem.W.nsIn K mainGlobals "_law_slow_rules" = some (some (.ref (He.fAd K ("_law_slow_rules", none)))) := He.eqO_ok (c.fact 1 25 (f := q_a36) rfl rfl)
  have k36 : PySem.W.keepIn K (.ref (He.fAd K ("_law_slow_rules", none))) = true := c.fact 1 26 (f := q_k36) rfl rfl
  have a37 : PySem.W.nsIn K mainGlobals "_law_loop" = some (some (.ref (He.fAd K ("_law_loop", none)))) := He.eqO_ok (c.fact 1 27 (f := q_a37) rfl rfl)
  have k37 : PySem.W.keepIn K (.ref (He.fAd K ("_law_loop", none))) = true := c.fact 1 28 (f := q_k37) rfl rfl
  have a38 : PySem.W.nsIn K mainGlobals "_law_due" = some (some (.ref (He.fAd K ("_law_due", none)))) := He.eqO_ok (c.fact 1 29 (f := q_a38) rfl rfl)
  have k38 : PySem.W.keepIn K (.ref (He.fAd K ("_law_due", none))) = true := c.fact 1 30 (f := q_k38) rfl rfl
  have a39 : PySem.W.nsIn K mainGlobals "_law_cases" = some (some (.ref (He.fAd K ("_law_cases", none)))) := He.eqO_ok (c.fact 1 31 (f := q_a39) rfl rfl)
  have k39 : PySem.W.keepIn K (.ref (He.fAd K ("_law_cases", none))) = true := c.fact 1 32 (f := q_k39) rfl rfl
  have a40 : PySem.W.nsIn K mainGlobals "_law_told" = some (some (.ref (He.fAd K ("_law_told", none)))) := He.eqO_ok (c.fact 1 33 (f := q_a40) rfl rfl)
  have k40 : PySem.W.keepIn K (.ref (He.fAd K ("_law_told", none))) = true := c.fact 1 34 (f := q_k40) rfl rfl
  have a41 : PySem.W.nsIn K mainGlobals "_law_fits" = some (some (.ref (He.fAd K ("_law_fits", none)))) := He.eqO_ok (c.fact 1 35 (f := q_a41) rfl rfl)
  have k41 : PySem.W.keepIn K (.ref (He.fAd K ("_law_fits", none))) = true := c.fact 1 36 (f := q_k41) rfl rfl
  have a42 : PySem.W.nsIn K mainGlobals "_law_all_cases" = some (some (.ref (He.fAd K ("_law_all_cases", none)))) := He.eqO_ok (c.fact 1 37 (f := q_a42) rfl rfl)
  have k42 : PySem.W.keepIn K (.ref (He.fAd K ("_law_all_cases", none))) = true := c.fact 1 38 (f := q_k42) rfl rfl
  have a43 : PySem.W.nsIn K mainGlobals "_law_spoilt" = some (some (.ref (He.fAd K ("_law_spoilt", none)))) := He.eqO_ok (c.fact 1 39 (f := q_a43) rfl rfl)
  have k43 : PySem.W.keepIn K (.ref (He.fAd K ("_law_spoilt", none))) = true := c.fact 1 40 (f := q_k43) rfl rfl
  have a44 : PySem.W.nsIn K mainGlobals "_law_letters_fit" = some (some (.ref (He.fAd K ("_law_letters_fit", none)))) := He.eqO_ok (c.fact 1 41 (f := q_a44) rfl rfl)
  have k44 : PySem.W.keepIn K (.ref (He.fAd K ("_law_letters_fit", none))) = true := c.fact 1 42 (f := q_k44) rfl rfl
  have a45 : PySem.W.nsIn K mainGlobals "law" = some (some (.ref (He.fAd K ("law", none)))) := He.eqO_ok (c.fact 1 43 (f := q_a45) rfl rfl)
  have k45 : PySem.W.keepIn K (.ref (He.fAd K ("law", none))) = true := c.fact 1 44 (f := q_k45) rfl rfl
  have hn_get : PySem.W.specialIn K (.builtin "object.__class__") "__get__" = some (some (.builtin "getset_descriptor.__get__")) := He.eqO_ok (c.fact 1 45 (f := q_hn_get) rfl rfl)
  have ht_get : PySem.W.takesIn K (.builtin "object.__class__") = some true := obB_ok (c.fact 1 46 (f := q_ht_get) rfl rfl)
  have aE_PressError : PySem.W.nsIn K mainGlobals "PressError" = some (some (.ref (He.ga K "PressError"))) := He.eqO_ok (c.fact 2 0 (f := q_aE_PressError) rfl rfl)
  have aE_BadAlphabet : PySem.W.nsIn K mainGlobals "BadAlphabet" = some (some (.ref (He.ga K "BadAlphabet"))) := He.eqO_ok (c.fact 2 1 (f := q_aE_BadAlphabet) rfl rfl)
  have aE_BadLetter : PySem.W.nsIn K mainGlobals "BadLetter" = some (some (.ref (He.ga K "BadLetter"))) := He.eqO_ok (c.fact 2 2 (f := q_aE_BadLetter) rfl rfl)
  have aE_BadStanding : PySem.W.nsIn K mainGlobals "BadStanding" = some (some (.ref (He.ga K "BadStanding"))) := He.eqO_ok (c.fact 2 3 (f := q_aE_BadStanding) rfl rfl)
  have aE_BadRule : PySem.W.nsIn K mainGlobals "BadRule" = some (some (.ref (He.ga K "BadRule"))) := He.eqO_ok (c.fact 2 4 (f := q_aE_BadRule) rfl rfl)
  have aE_AlphabetsDiffer : PySem.W.nsIn K mainGlobals "AlphabetsDiffer" = some (some (.ref (He.ga K "AlphabetsDiffer"))) := He.eqO_ok (c.fact 2 5 (f := q_aE_AlphabetsDiffer) rfl rfl)
  have ty_BadLetter : PySem.W.typeIn K (.ref (He.ga K "BadLetter")) = some (.type "type") := tyB_ok (c.fact 2 6 (f := q_ty_BadLetter) rfl rfl)
  have kcE_BadLetter : PySem.W.keepIn K (.ref (He.ga K "BadLetter")) = true := c.fact 2 7 (f := q_kcE_BadLetter) rfl rfl
  have gaE_BadLetter : PySem.W.findIn K (.ref (He.ga K "BadLetter")) "__getattribute__" = some (some (.builtin "BaseException.__getattribute__")) := He.eqO_ok (c.fact 2 8 (f := q_gaE_BadLetter) rfl rfl)
  have ggE_BadLetter : PySem.W.findIn K (.ref (He.ga K "BadLetter")) "__getattr__" = some none := He.eqO_ok (c.fact 2 9 (f := q_ggE_BadLetter) rfl rfl)
  have sbE_BadLetter : PySem.W.subIn K (.ref (He.ga K "BadLetter")) (.type "BaseException") = some true := obB_ok (c.fact 2 10 (f := q_sbE_BadLetter) rfl rfl)
  have hdE_BadLetter : PySem.W.hasDictIn K (He.ga K "BadLetter") = true := c.fact 2 11 (f := q_hdE_BadLetter) rfl rfl
  have caE_BadLetter : PySem.W.findIn K (.ref (He.ga K "BadLetter")) "__class__" = some (some (.builtin "object.__class__")) := He.eqO_ok (c.fact 2 12 (f := q_caE_BadLetter) rfl rfl)
  have mrE_BadLetter : PySem.W.mroIn K (He.ga K "BadLetter") (.type "object") = some true := obB_ok (c.fact 2 13 (f := q_mrE_BadLetter) rfl rfl)
  obtain ⟨_, _, _, _, _, _, _, _, _, _, _, _, _, _, _, xL_BadLetter, hb_BadLetter⟩ := xcB_ok (c.fact 2 14 (f := q_xL_BadLetter) rfl rfl)
  have saE_BadLetter : PySem.W.findIn K (.ref (He.ga K "BadLetter")) "__setattr__" = some (some (.builtin "object.__setattr__")) := He.eqO_ok (c.fact 2 15 (f := q_saE_BadLetter) rfl rfl)
  have iE_BadLetter : PySem.W.findIn K (.ref (He.ga K "BadLetter")) "__init__" = some (some (.ref (He.fAd K ("BadLetter", some "__init__")))) := He.eqO_ok (c.fact 2 16 (f := q_iE_BadLetter) rfl rfl)
  have tiE_BadLetter : PySem.W.typeIn K (.ref (He.fAd K ("BadLetter", some "__init__"))) = some (.type "function") := tyB_ok (c.fact 2 17 (f := q_tiE_BadLetter) rfl rfl)
  have kpE_BadLetter : PySem.W.keepIn K (.ref (He.fAd K ("BadLetter", some "__init__"))) = true := c.fact 2 18 (f := q_kpE_BadLetter) rfl rfl
  have nfE_BadLetter_index : PySem.W.findIn K (.ref (He.ga K "BadLetter")) "index" = some none := He.eqO_ok (c.fact 2 19 (f := q_nfE_BadLetter_index) rfl rfl)
  have kt_BadLetter_PressError : PySem.W.kitOne K (.ref (He.ga K "BadLetter")) (.ref (He.ga K "PressError")) = some true := obB_ok (c.fact 2 20 (f := q_kt_BadLetter_PressError) rfl rfl)
  have kt_BadLetter_BadAlphabet : PySem.W.kitOne K (.ref (He.ga K "BadLetter")) (.ref (He.ga K "BadAlphabet")) = some false := obB_ok (c.fact 2 21 (f := q_kt_BadLetter_BadAlphabet) rfl rfl)
  have kt_BadLetter_BadLetter : PySem.W.kitOne K (.ref (He.ga K "BadLetter")) (.ref (He.ga K "BadLetter")) = some true := obB_ok (c.fact 2 22 (f := q_kt_BadLetter_BadLetter) rfl rfl)
  have kt_BadLetter_BadStanding : PySem.W.kitOne K (.ref (He.ga K "BadLetter")) (.ref (He.ga K "BadStanding")) = some false := obB_ok (c.fact 2 23 (f := q_kt_BadLetter_BadStanding) rfl rfl)
  have kt_BadLetter_BadRule : PySem.W.kitOne K (.ref (He.ga K "BadLetter")) (.ref (He.ga K "BadRule")) = some false := obB_ok (c.fact 2 24 (f := q_kt_BadLetter_BadRule) rfl rfl)
  have kt_BadLetter_AlphabetsDiffer : PySem.W.kitOne K (.ref (He.ga K "BadLetter")) (.ref (He.ga K "AlphabetsDiffer")) = some false := obB_ok (c.fact 2 25 (f := q_kt_BadLetter_AlphabetsDiffer) rfl rfl)
  have kt_BadLetter_VE : PySem.W.kitOne K (.ref (He.ga K "BadLetter")) (.type "ValueError") = some true := obB_ok (c.fact 2 26 (f := q_kt_BadLetter_VE) rfl rfl)
  have ex_BadLetter_PressError : PySem.W.exmOne K (.ref (He.ga K "BadLetter")) (.ref (He.ga K "PressError")) = some true := obB_ok (c.fact 2 27 (f := q_ex_BadLetter_PressError) rfl rfl)
  have ty_AlphabetsDiffer : PySem.W.typeIn K (.ref (He.ga K "AlphabetsDiffer")) = some (.type "type") := tyB_ok (c.fact 2 28 (f := q_ty_AlphabetsDiffer) rfl rfl)
  have kcE_AlphabetsDiffer : PySem.W.keepIn K (.ref (He.ga K "AlphabetsDiffer")) = true := c.fact 2 29 (f := q_kcE_AlphabetsDiffer) rfl rfl
  have gaE_AlphabetsDiffer : PySem.W.findIn K (.ref (He.ga K "AlphabetsDiffer")) "__getattribute__" = some (some (.builtin "BaseException.__getattribute__")) := He.eqO_ok (c.fact 2 30 (f := q_gaE_AlphabetsDiffer) rfl rfl)
  have ggE_AlphabetsDiffer : PySem.W.findIn K (.ref (He.ga K "AlphabetsDiffer")) "__getattr__" = some none := He.eqO_ok (c.fact 2 31 (f := q_ggE_AlphabetsDiffer) rfl rfl)
  have sbE_AlphabetsDiffer : PySem.W.subIn K (.ref (He.ga K "AlphabetsDiffer")) (.type "BaseException") = some true := obB_ok (c.fact 2 32 (f := q_sbE_AlphabetsDiffer) rfl rfl)
  have hdE_AlphabetsDiffer : PySem.W.hasDictIn K (He.ga K "AlphabetsDiffer") = true := c.fact 2 33 (f := q_hdE_AlphabetsDiffer) rfl rfl
  have caE_AlphabetsDiffer : PySem.W.findIn K (.ref (He.ga K "AlphabetsDiffer")) "__class__" = some (some (.builtin "object.__class__")) := He.eqO_ok (c.fact 2 34 (f := q_caE_AlphabetsDiffer) rfl rfl)
  have mrE_AlphabetsDiffer : PySem.W.mroIn K (He.ga K "AlphabetsDiffer") (.type "object") = some true := obB_ok (c.fact 2 35 (f := q_mrE_AlphabetsDiffer) rfl rfl)
  obtain ⟨_, _, _, _, _, _, _, _, _, _, _, _, _, _, _, xL_AlphabetsDiffer, hb_AlphabetsDiffer⟩ := xcB_ok (c.fact 2 36 (f := q_xL_AlphabetsDiffer) rfl rfl)
  have saE_AlphabetsDiffer : PySem.W.findIn K (.ref (He.ga K "AlphabetsDiffer")) "__setattr__" = some (some (.builtin "object.__setattr__")) := He.eqO_ok (c.fact 2 37 (f := q_saE_AlphabetsDiffer) rfl rfl)
  have iE_AlphabetsDiffer : PySem.W.findIn K (.ref (He.ga K "AlphabetsDiffer")) "__init__" = some (some (.ref (He.fAd K ("AlphabetsDiffer", some "__init__")))) := He.eqO_ok (c.fact 2 38 (f := q_iE_AlphabetsDiffer) rfl rfl)
  have tiE_AlphabetsDiffer : PySem.W.typeIn K (.ref (He.fAd K ("AlphabetsDiffer", some "__init__"))) = some (.type "function") := tyB_ok (c.fact 2 39 (f := q_tiE_AlphabetsDiffer) rfl rfl)
  have kpE_AlphabetsDiffer : PySem.W.keepIn K (.ref (He.fAd K ("AlphabetsDiffer", some "__init__"))) = true := c.fact 2 40 (f := q_kpE_AlphabetsDiffer) rfl rfl
  have nfE_AlphabetsDiffer_one : PySem.W.findIn K (.ref (He.ga K "AlphabetsDiffer")) "one" = some none := He.eqO_ok (c.fact 2 41 (f := q_nfE_AlphabetsDiffer_one) rfl rfl)
  have nfE_AlphabetsDiffer_two : PySem.W.findIn K (.ref (He.ga K "AlphabetsDiffer")) "two" = some none := He.eqO_ok (c.fact 2 42 (f := q_nfE_AlphabetsDiffer_two) rfl rfl)
  have kt_AlphabetsDiffer_PressError : PySem.W.kitOne K (.ref (He.ga K "AlphabetsDiffer")) (.ref (He.ga K "PressError")) = some true := obB_ok (c.fact 2 43 (f := q_kt_AlphabetsDiffer_PressError) rfl rfl)
  have kt_AlphabetsDiffer_BadAlphabet : PySem.W.kitOne K (.ref (He.ga K "AlphabetsDiffer")) (.ref (He.ga K "BadAlphabet")) = some false := obB_ok (c.fact 2 44 (f := q_kt_AlphabetsDiffer_BadAlphabet) rfl rfl)
  have kt_AlphabetsDiffer_BadLetter : PySem.W.kitOne K (.ref (He.ga K "AlphabetsDiffer")) (.ref (He.ga K "BadLetter")) = some false := obB_ok (c.fact 2 45 (f := q_kt_AlphabetsDiffer_BadLetter) rfl rfl)
  have kt_AlphabetsDiffer_BadStanding : PySem.W.kitOne K (.ref (He.ga K "AlphabetsDiffer")) (.ref (He.ga K "BadStanding")) = some false := obB_ok (c.fact 2 46 (f := q_kt_AlphabetsDiffer_BadStanding) rfl rfl)
  have kt_AlphabetsDiffer_BadRule : PySem.W.kitOne K (.ref (He.ga K "AlphabetsDiffer")) (.ref (He.ga K "BadRule")) = some false := obB_ok (c.fact 3 0 (f := q_kt_AlphabetsDiffer_BadRule) rfl rfl)
  have kt_AlphabetsDiffer_AlphabetsDiffer : PySem.W.kitOne K (.ref (He.ga K "AlphabetsDiffer")) (.ref (He.ga K "AlphabetsDiffer")) = some true := obB_ok (c.fact 3 1 (f := q_kt_AlphabetsDiffer_AlphabetsDiffer) rfl rfl)
  have kt_AlphabetsDiffer_VE : PySem.W.kitOne K (.ref (He.ga K "AlphabetsDiffer")) (.type "ValueError") = some true := obB_ok (c.fact 3 2 (f := q_kt_AlphabetsDiffer_VE) rfl rfl)
  have ex_AlphabetsDiffer_PressError : PySem.W.exmOne K (.ref (He.ga K "AlphabetsDiffer")) (.ref (He.ga K "PressError")) = some true := obB_ok (c.fact 3 3 (f := q_ex_AlphabetsDiffer_PressError) rfl rfl)
  have aC_Machine : PySem.W.nsIn K mainGlobals "Machine" = some (some (.ref (He.ga K "Machine"))) := He.eqO_ok (c.fact 3 4 (f := q_aC_Machine) rfl rfl)
  have pg_Machine : PySem.W.plainGet K (He.ga K "Machine") Str.empty = true := c.fact 3 5 (f := q_pg_Machine) rfl rfl
  have hd_Machine : PySem.W.hasDictIn K (He.ga K "Machine") = true := c.fact 3 6 (f := q_hd_Machine) rfl rfl
  have po_Machine : PySem.W.plainOver K (He.ga K "Machine") = true := c.fact 3 7 (f := q_po_Machine) rfl rfl
  have sa_Machine : PySem.W.findIn K (.ref (He.ga K "Machine")) "__setattr__" = some (some (.builtin "object.__setattr__")) := He.eqO_ok (c.fact 3 8 (f := q_sa_Machine) rfl rfl)
  have mk_Machine : PySem.W.makesIn K (He.ga K "Machine") = true := c.fact 3 9 (f := q_mk_Machine) rfl rfl
  have kc_Machine : PySem.W.keepIn K (.ref (He.ga K "Machine")) = true := c.fact 3 10 (f := q_kc_Machine) rfl rfl
  have n_Machine_alphabet : PySem.W.findIn K (.ref (He.ga K "Machine")) "alphabet" = some none := He.eqO_ok (c.fact 3 11 (f := q_n_Machine_alphabet) rfl rfl)
  have n_Machine_rules : PySem.W.findIn K (.ref (He.ga K "Machine")) "rules" = some none := He.eqO_ok (c.fact 3 12 (f := q_n_Machine_rules) rfl rfl)
  have n_Machine_standings : PySem.W.findIn K (.ref (He.ga K "Machine")) "standings" = some none := He.eqO_ok (c.fact 3 13 (f := q_n_Machine_standings) rfl rfl)
  have n_Machine_reached : PySem.W.findIn K (.ref (He.ga K "Machine")) "reached" = some none := He.eqO_ok (c.fact 3 14 (f := q_n_Machine_reached) rfl rfl)
  have a46 : PySem.W.findIn K (.ref (He.ga K "Machine")) "__init__" = some (some (.ref (He.fAd K ("Machine", some "__init__")))) := He.eqO_ok (c.fact 3 15 (f := q_a46) rfl rfl)
  have i46 : PySem.W.isFn K (.ref (He.fAd K ("Machine", some "__init__"))) = true := c.fact 3 16 (f := q_i46) rfl rfl
  have k46 : PySem.W.keepIn K (.ref (He.fAd K ("Machine", some "__init__"))) = true := c.fact 3 17 (f := q_k46) rfl rfl
  have w47 : He5.wrapB K (He.ga K "Machine") "staticmethod" "staticmethod.__get__" "plain" = true := c.fact 3 18 (f := q_w47) rfl rfl
  have k47 : PySem.W.keepIn K (.ref (He5.wf K (He.ga K "Machine") "staticmethod" "plain")) = true := c.fact 3 19 (f := q_k47) rfl rfl
  have a48 : PySem.W.findIn K (.ref (He.ga K "Machine")) "run" = some (some (.ref (He.fAd K ("Machine", some "run")))) := He.eqO_ok (c.fact 3 20 (f := q_a48) rfl rfl)
  have i48 : PySem.W.isFn K (.ref (He.fAd K ("Machine", some "run"))) = true := c.fact 3 21 (f := q_i48) rfl rfl
  have k48 : PySem.W.keepIn K (.ref (He.fAd K ("Machine", some "run"))) = true := c.fact 3 22 (f := q_k48) rfl rfl
  have a49 : PySem.W.findIn K (.ref (He.ga K "Machine")) "last_after" = some (some (.ref (He.fAd K ("Machine", some "last_after")))) := He.eqO_ok (c.fact 3 23 (f := q_a49) rfl rfl)
  have i49 : PySem.W.isFn K (.ref (He.fAd K ("Machine", some "last_after"))) = true := c.fact 3 24 (f := q_i49) rfl rfl
  have k49 : PySem.W.keepIn K (.ref (He.fAd K ("Machine", some "last_after"))) = true := c.fact 3 25 (f := q_k49) rfl rfl
  have rd_Machine : PySem.W.readsIn K (He.ga K "Machine") (.type "type") = true := c.fact 3 26 (f := q_rd_Machine) rfl rfl
  have rg_Machine : PySem.W.specialIn K (.ref (He.ga K "Machine")) "__getattribute__" = some (some (.builtin "type.__getattribute__")) := He.eqO_ok (c.fact 3 27 (f := q_rg_Machine) rfl rfl)
  have z_ValueError : PySem.W.nsIn K mainGlobals "ValueError" = some none := He.eqO_ok (c.fact 3 28 (f := q_z_ValueError) rfl rfl)
  have z_all : PySem.W.nsIn K mainGlobals "all" = some none := He.eqO_ok (c.fact 3 29 (f := q_z_all) rfl rfl)
  have z_bool : PySem.W.nsIn K mainGlobals "bool" = some none := He.eqO_ok (c.fact 3 30 (f := q_z_bool) rfl rfl)
  have z_enumerate : PySem.W.nsIn K mainGlobals "enumerate" = some none := He.eqO_ok (c.fact 3 31 (f := q_z_enumerate) rfl rfl)
  have z_int : PySem.W.nsIn K mainGlobals "int" = some none := He.eqO_ok (c.fact 3 32 (f := q_z_int) rfl rfl)
  have z_isinstance : PySem.W.nsIn K mainGlobals "isinstance" = some none := He.eqO_ok (c.fact 3 33 (f := q_z_isinstance) rfl rfl)
  have z_len : PySem.W.nsIn K mainGlobals "len" = some none := He.eqO_ok (c.fact 3 34 (f := q_z_len) rfl rfl)
  have z_list : PySem.W.nsIn K mainGlobals "list" = some none := He.eqO_ok (c.fact 3 35 (f := q_z_list) rfl rfl)
  have z_max : PySem.W.nsIn K mainGlobals "max" = some none := He.eqO_ok (c.fact 3 36 (f := q_z_max) rfl rfl)
  have z_min : PySem.W.nsIn K mainGlobals "min" = some none := He.eqO_ok (c.fact 3 37 (f := q_z_min) rfl rfl)
  have z_range : PySem.W.nsIn K mainGlobals "range" = some none := He.eqO_ok (c.fact 3 38 (f := q_z_range) rfl rfl)
  have z_sorted : PySem.W.nsIn K mainGlobals "sorted" = some none := He.eqO_ok (c.fact 3 39 (f := q_z_sorted) rfl rfl)
  have z_str : PySem.W.nsIn K mainGlobals "str" = some none := He.eqO_ok (c.fact 3 40 (f := q_z_str) rfl rfl)
  have z_tuple : PySem.W.nsIn K mainGlobals "tuple" = some none := He.eqO_ok (c.fact 3 41 (f := q_z_tuple) rfl rfl)
  have z_zip : PySem.W.nsIn K mainGlobals "zip" = some none := He.eqO_ok (c.fact 3 42 (f := q_z_zip) rfl rfl)
  obtain ⟨_, g_LETTERS⟩ := strB_ok (c.fact 3 43 (f := q_g_LETTERS) rfl rfl)
  obtain ⟨_, g_MOST_LETTERS⟩ := intB_ok (c.fact 3 44 (f := q_g_MOST_LETTERS) rfl rfl)
  exact all_mk X G hfa a0 l0 c0 k0 a1 l1 c1 k1 a2 l2 c2 k2 a3 l3 c3 k3 a4 l4 c4 k4 a5 l5 c5 k5 a6 l6 c6 k6 a7 l7 c7 k7 a8 l8 c8 k8 a9 l9 c9 k9 a10 l10 c10 k10 a11 l11 c11 k11 a12 l12 c12 k12 a13 l13 c13 k13 a14 l14 c14 k14 a15 l15 c15 k15 a16 l16 c16 k16 a17 l17 c17 k17 a18 l18 c18 k18 a19 l19 c19 k19 a20 l20 c20 k20 a21 l21 c21 k21 a22 l22 c22 k22 a23 l23 c23 k23 a24 l24 c24 k24 a25 l25 c25 k25 a26 l26 c26 k26 a27 l27 c27 k27 a28 l28 c28 k28 a29 l29 c29 k29 a30 l30 c30 k30 a31 l31 c31 k31 a32 l32 c32 k32 a33 l33 c33 k33 a34 l34 c34 k34 a35 l35 c35 k35 a36 l36 c36 k36 a37 l37 c37 k37 a38 l38 c38 k38 a39 l39 c39 k39 a40 l40 c40 k40 a41 l41 c41 k41 a42 l42 c42 k42 a43 l43 c43 k43 a44 l44 c44 k44 a45 l45 c45 k45 hn_get ht_get aE_PressError aE_BadAlphabet aE_BadLetter aE_BadStanding aE_BadRule aE_AlphabetsDiffer ty_BadLetter kcE_BadLetter gaE_BadLetter ggE_BadLetter sbE_BadLetter hdE_BadLetter caE_BadLetter mrE_BadLetter xL_BadLetter hb_BadLetter saE_BadLetter iE_BadLetter tiE_BadLetter lE_BadLetter ccE_BadLetter kpE_BadLetter nfE_BadLetter_index kt_BadLetter_PressError kt_BadLetter_BadAlphabet kt_BadLetter_BadLetter kt_BadLetter_BadStanding kt_BadLetter_BadRule kt_BadLetter_AlphabetsDiffer kt_BadLetter_VE ex_BadLetter_PressError ty_AlphabetsDiffer kcE_AlphabetsDiffer gaE_AlphabetsDiffer ggE_AlphabetsDiffer sbE_AlphabetsDiffer hdE_AlphabetsDiffer caE_AlphabetsDiffer mrE_AlphabetsDiffer xL_AlphabetsDiffer hb_AlphabetsDiffer saE_AlphabetsDiffer iE_AlphabetsDiffer tiE_AlphabetsDiffer lE_AlphabetsDiffer ccE_AlphabetsDiffer kpE_AlphabetsDiffer nfE_AlphabetsDiffer_one nfE_AlphabetsDiffer_two kt_AlphabetsDiffer_PressError kt_AlphabetsDiffer_BadAlphabet kt_AlphabetsDiffer_BadLetter kt_AlphabetsDiffer_BadStanding kt_AlphabetsDiffer_BadRule kt_AlphabetsDiffer_AlphabetsDiffer kt_AlphabetsDiffer_VE ex_AlphabetsDiffer_PressError aC_Machine pg_Machine hd_Machine po_Machine sa_Machine mk_Machine kc_Machine n_Machine_alphabet n_Machine_rules n_Machine_standings n_Machine_reached a46 i46 l46 c46 k46 w47 rfl l47 c47 k47 a48 i48 l48 k48 a49 i49 l49 c49 k49 rd_Machine rg_Machine z_ValueError z_all z_bool z_enumerate z_int z_isinstance z_len z_list z_max z_min z_range z_sorted z_str z_tuple z_zip g_LETTERS g_MOST_LETTERS
end Ver
open PySem PySem.W PyProof.Rows
set_option maxRecDepth 100000 in
set_option maxHeartbeats 0 in
theorem PySem.Challenge.cw_outpressed_k55_lead_loop_judged_holds : PySem.Challenge.rw_outpressed_k55_lead_loop_judged.Holds := by
  w_on; o_law
  refine HandSHeadRun.head_any (r := Ver.RR) (q := Ver.qv) (H := Ver.hk) (ob := Ver.obT) (M := 20000) (loose := Ver.nms) (d := HandSHeadRun.topDef Ver.RR.prog 63) (kwd := []) Ver.obT_eq
    (by kernel_rfl) (fun s => by kernel_rfl) Ver.runs (by kernel_rfl) (by kernel_rfl) (by kernel_rfl) (by rfl) (by first | assumption | decide +kernel) (by decide +kernel) ⟨rfl, rfl, rfl, rfl, rfl, by decide +kernel⟩ ?hw ?hc
  case hw => w_witness2
  case hc =>
    refine Ver.walkH (l := PySem.Challenge.rw_outpressed_k55_lead_loop_judged) (n := 63) (k := 10) (x := "script") (sp := fun _ K => Ver.spLaw K) (S := Ver.SaysH Ver.qs Ver.fns) rfl (by decide) (by kernel_rfl) ⟨rfl, by decide, by decide⟩ (fun _ _ Y => Y) ?F (fun _ K _ a ns hl _ hS => ⟨a, ns, rfl, hS, hl, fun _ => rfl⟩)
    intro w mg fa h K KX c G hmg0
    have e : (HandSHeadRun.topDef Ver.RR.prog 63).name = ("law" : PySem.Str) := by kernel_rfl
    rw [e] at hmg0
    exact Ver.facts KX c G hmg0

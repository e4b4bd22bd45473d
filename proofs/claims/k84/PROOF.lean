import PyProof.Rows.All
import Wide.All
import OpenK.AllK
import Wide.FinOn
import HandS.ForMost
import HandS.Evl
import HandS.Wide
import HandS.WideBits
import HandS.IsInst
import KE.KEqDeep
import KE.KMinKey
import HandS.Codes
import HandS.OwnEq
import PyProof.InstNe
import HandS.MakeKwOnly
import HandS.SortKw
import HandS.Defaults
import HandS.Exc
import HandS.TryOnly
import HandS.TryMany
import HandS.ExcOwn
import HandS.WordsExc
import HandS.More
import HandS.Lambda
import KE.KExcIs
import HandS.HotCalls
import HandS.ExcInit
import KE.KExcInit
import HandS.Walk
import HandS.Flow
import HandS.Style
import HandS.Iter
import PyProof.ReprRoads
import HandS.EndTab
import KE.DataFind
import HandS.SetFor
import HandS.Strs
import HandS.SortInts
import HandS.Conv
import HandS.Text
import HandS.StrMore
import HandS.FStr
import HandS.Star
import HandS.RaiseMore
import PySem.Challenge.RW_retryslots_k84_rules_and_logs_as_texts
set_option Elab.async false
set_option maxRecDepth 100000
set_option maxHeartbeats 2000000
namespace RS
open PySem L2
def top (i : Nat) : Stmt := PySem.Challenge.pw_retryslots_k84_rules_and_logs_as_texts.main.body.getD i (.Pass ⟨0, 0, 0, 0⟩)
abbrev s_wall : Stmt := top 0
abbrev s_InvalidRule_ddinitdd : Stmt := inClass (top 3) 0
abbrev s_InvalidAttempt_ddinitdd : Stmt := inClass (top 4) 0
abbrev s_InvalidScene_ddinitdd : Stmt := inClass (top 5) 0
abbrev s_InvalidLog_ddinitdd : Stmt := inClass (top 6) 0
abbrev s_LimitExceeded_ddinitdd : Stmt := inClass (top 7) 0
abbrev s_InvalidText_ddinitdd : Stmt := inClass (top 8) 0
abbrev s_is_integer : Stmt := top 10
abbrev s_are_gaps : Stmt := top 13
abbrev s_are_two_integers : Stmt := top 14
abbrev s_sums : Stmt := top 16
abbrev s_Rule_ddinitdd : Stmt := inClass (top 21) 0
abbrev s_Rule_ddeqdd : Stmt := inClass (top 21) 1
abbrev s_Rule_gaps : Stmt := inClass (top 21) 2
abbrev s_Rule_tail : Stmt := inClass (top 21) 3
abbrev s_Rule_attempts : Stmt := inClass (top 21) 4
abbrev s_Rule_gap : Stmt := inClass (top 21) 5
abbrev s_Rule_offset : Stmt := inClass (top 21) 6
abbrev s_Rule_first_from : Stmt := inClass (top 21) 7
abbrev s_Rule_attempt_at : Stmt := inClass (top 21) 8
abbrev s_Rule_period : Stmt := inClass (top 21) 9
abbrev s_Rule_least_gap : Stmt := inClass (top 21) 10
abbrev s_Rule_first_repeating : Stmt := inClass (top 21) 11
abbrev s_Rule_offsets_between : Stmt := inClass (top 21) 12
abbrev s_Rule_check_attempt : Stmt := inClass (top 21) 13
abbrev s_Rule_offset_of : Stmt := inClass (top 21) 14
abbrev s_Rule_first_growing : Stmt := inClass (top 21) 15
abbrev s_Rule_surely_short : Stmt := inClass (top 21) 16
abbrev s_Rule_first_repeated : Stmt := inClass (top 21) 17
abbrev s_is_tail : Stmt := top 22
abbrev s_power : Stmt := top 23
abbrev s_check_rule : Stmt := top 25
abbrev s_lines_of : Stmt := top 28
abbrev s_check_no_line : Stmt := top 29
abbrev s_Line_ddinitdd : Stmt := inClass (top 30) 0
abbrev s_Line_refuse : Stmt := inClass (top 30) 1
abbrev s_Line_one_of : Stmt := inClass (top 30) 2
abbrev s_Line_whole : Stmt := inClass (top 30) 3
abbrev s_Line_wholes : Stmt := inClass (top 30) 4
abbrev s_Line_pairs : Stmt := inClass (top 30) 5
abbrev s_Line_finish : Stmt := inClass (top 30) 6
abbrev s_is_pair : Stmt := top 31
abbrev s_is_number : Stmt := top 32
abbrev s_format_rule : Stmt := top 34
abbrev s_parse_rule : Stmt := top 35
abbrev s_format_log : Stmt := top 36
abbrev s_parse_log : Stmt := top 37
abbrev s_joined : Stmt := top 38
abbrev s_read_rule : Stmt := top 39
abbrev s_law_source_of : Stmt := top 41
abbrev s_law_next : Stmt := top 42
abbrev s_law_one : Stmt := top 43
abbrev s_law_cell_at : Stmt := top 44
abbrev s_law_spec : Stmt := top 45
abbrev s_law_number : Stmt := top 46
abbrev s_law : Stmt := top 47
/-! ### what the walk asks of the text's top -/
structure Txt (K : PySem.W.Frag) (mg : Str → Option Value) (C : Addr) : Prop where
  cl : Cls K C
  nG : NoAttr K C "_gaps"
  nT : NoAttr K C "_tail"
  nO : NoAttr K C "_offsets"
  mgC : mg "Rule" = some (.ref C)
  len : mg "len" = none
  isi : mg "isinstance" = none
  int : mg "int" = none
  bool : mg "bool" = none
  list : mg "list" = none
  tuple : mg "tuple" = none
  str : mg "str" = none
  all : mg "all" = none
  range : mg "range" = none
  divmod : mg "divmod" = none
  sum : mg "sum" = none
  max : mg "max" = none
  min : mg "min" = none
  sorted : mg "sorted" = none
  set : mg "set" = none
  any : mg "any" = none
  enum : mg "enumerate" = none
  mMost : ∃ t, mg "_MOST_GAPS" = some (.int 20 t)
  mLong : ∃ t, mg "_LONGEST_GAP" = some (.int 1000000000000 t)
  mFact : ∃ t, mg "_GREATEST_FACTOR" = some (.int 1000 t)
  mLast : ∃ t, mg "LAST_GROWING" = some (.int 1000 t)

/-! ### the data -/
/-- a rule's tail -/
inductive Tl where
  | fin
  | times (b : Int)
  | rep (n : Nat)
def Tl.vs : Tl → List V
  | .fin => [.str "end"]
  | .times b => [.str "times", .int b]
  | .rep n => [.str "repeat", .int (n : Int)]
def GapsOk (gs : List Int) : Prop := gs.length ≤ 20 ∧ ∀ g ∈ gs, 1 ≤ g ∧ g ≤ 1000000000000
def TlOk (many : Nat) : Tl → Prop
  | .fin => True
  | .times b => 0 < many ∧ 2 ≤ b ∧ b ≤ 1000
  | .rep n => 1 ≤ n ∧ n ≤ many
/-- the sum of the first k gaps -/
def pre (gs : List Int) (k : Nat) : Int := (gs.take k).sum
def offs (gs : List Int) : List Int := (List.range (gs.length + 1)).map (pre gs)
theorem offs_len (gs : List Int) : (offs gs).length = gs.length + 1 := by simp [offs]
theorem offs_get (gs : List Int) {k : Nat} (h : k ≤ gs.length) : (offs gs)[k]? = some (pre gs k) := by
  unfold offs
  rw [List.getElem?_map, List.getElem?_range (by omega)]
  rfl
theorem pre_zero (gs : List Int) : pre gs 0 = 0 := rfl
theorem pre_succ (gs : List Int) {k : Nat} {g : Int} (h : gs[k]? = some g) : pre gs (k + 1) = pre gs k + g := by
  unfold pre
  rw [List.take_add_one, h, List.sum_append]
  simp
theorem iteFb {b : Bool} {A B : Prop} (e : b = false) (h : B) : if b = true then A else B := by
  rw [e]
  exact iteF h
theorem iteTb {b : Bool} {A B : Prop} (e : b = true) (h : A) : if b = true then A else B := by
  rw [e]
  exact iteT h
theorem yes_t {Q : Bool → Hp → Prop} {σ : L2.St} {H : Hp} (h : Q true H) : tYes σ H Q := h
theorem at_map {xs : List Int} {j : Nat} {v : Int} (h : xs[j]? = some v) : atI (xs.map V.int) (j : Int) = some (.int v) := atI_nat (by rw [List.getElem?_map, h]; rfl)
theorem at_back {α : Type} {xs : List α} {j : Nat} {v : α} (h0 : 0 < j) (hj : j ≤ xs.length) (h : xs[xs.length - j]? = some v) : atI xs (-(j : Int)) = some v := by
  have e : ixN xs.length (-(j : Int)) = some (xs.length - j) := by
    unfold ixN
    rw [if_neg (by omega), if_pos (by omega)]
    congr 1
    omega
  unfold atI
  rw [e]
  exact h
theorem at_back1 {α : Type} {xs : List α} {v : α} (hj : 0 < xs.length) (h : xs[xs.length - 1]? = some v) : atI xs (-1) = some v := at_back (j := 1) (by omega) hj h

section
variable {P : Program} {w : World} {K : PySem.W.Frag} {mg : Str → Option Value} {base : Heap}
/-! ### is_integer -/
def spIsInt : Sp := fun vs H Q _ => ∃ i, vs = [.int i] ∧ Q (.bl true) H
theorem scIsInt : FnScope ["value"] ["value"] (defScope s_is_integer) := ⟨rfl, rfl, rfl, by decide +kernel, rfl, by decide +kernel, by decide +kernel⟩
theorem ok_isInt {f C : Addr} {fd : FuncData} (F : Fun K "is_integer" "is_integer" s_is_integer f fd) (T : Txt K mg C) : FnOk P w K mg base CX0 1 f fd ["value"] spIsInt := by
  refine F.ok scIsInt (fun vs H Q E h => ?_) (fun cdv A outer s H vs Q E hr h => ?_)
  · obtain ⟨i, rfl, _⟩ := h
    rfl
  · obtain ⟨i, rfl, k⟩ := h
    refine ⟨_, pss_one (ps_ret (pe_and (pe_callB call_isi (by rfl) T.isi (by decide +kernel) (pa_cons (pv 0) (pa_cons (pe_bltn (v := .ty "int") (by rfl) T.int (by decide +kernel) rfl) pa_nil))) (pe_one (pe_not (pe_callB call_isi (by rfl) T.isi (by decide +kernel) (pa_cons (pv 0) (pa_cons (pe_bltn (v := .ty "bool") (by rfl) T.bool (by decide +kernel) rfl) pa_nil))))))), ?_⟩
    refine ⟨_, rfl, _, _, _, _, _, rfl, .ty _, .base (.int i), kit_ty (r := true) (by decide +kernel), true, rfl, ?_⟩
    refine iteT ?_
    exact ⟨_, rfl, _, _, _, _, _, rfl, .ty _, .base (.int i), kit_ty (r := false) (by decide +kernel), false, rfl, k⟩

/-! ### _are_gaps -/
def spAreGaps : Sp := fun vs H Q _ => ∃ a gs, ∃ most : Nat, vs = [.ref a, .int (most : Int)] ∧ H a = some (.lst (gs.map V.int)) ∧ GapsOk gs ∧ gs.length ≤ most ∧ ∀ H', Same H H' → Q (.bl true) H'
theorem scAreGaps : FnScope ["value", "most", "gap"] ["value", "most"] (defScope s_are_gaps) := ⟨rfl, rfl, rfl, by decide +kernel, rfl, by decide +kernel, by decide +kernel⟩
theorem ok_areGaps {f C fi : Addr} {fd fdi : FuncData} (F : Fun K "are_gaps" "are_gaps" s_are_gaps f fd) (T : Txt K mg C) (FI : Fun K "is_integer" "is_integer" s_is_integer fi fdi) (bI : Binds K fdi ["value"] []) (mI : mg "is_integer" = some (.ref fi)) : FnOk P w K mg base CX0 2 f fd ["value", "most"] spAreGaps := by
  have GI : FnOk P w K mg base CX0 1 fi fdi ["value"] spIsInt := ok_isInt FI T
  obtain ⟨t2, m2⟩ := T.mLong
  refine F.ok scAreGaps (fun vs H Q E h => ?_) (fun cdv A outer s H vs Q E hr h => ?_)
  · obtain ⟨a, gs, most, rfl, _⟩ := h
    rfl
  · obtain ⟨a, gs, most, rfl, ha, ok, okm, k⟩ := h
    refine ⟨_, (pss_cons (ps_if (PW.pt (pw_or (pt_not (pt_val (pe_callB call_isi (by rfl) T.isi (by decide +kernel) (pa_cons (pv 0) (pa_cons (pe_bltn (v := .ty "list") (by rfl) T.list (by decide +kernel) rfl) pa_nil))))) (pw_or1 (pt_cmpR op_gt (pe_callB call_len_seq (by rfl) T.len (by decide +kernel) (pa_cons (pv 0) pa_nil)) (pv 1) (nomark _))))) (pss_one (ps_ret pe_bl)) pss_nil) (pss_one (ps_ret (pe_callB (cr_all rfl) (by rfl) T.all (by decide +kernel) (pa_cons (pe_lc (own := [("gap", 2)]) (g := gName 2) (tt := tYes) rfl scAreGaps.nd (pi_list (pv 0)) (blkOk_by (own := [("gap", 2)]) (N := ["value", "most", "gap"]) (sc := defScope s_are_gaps) (by decide +kernel))
          (fun _ _ _ _ _ => (pg_name (i := 2) scAreGaps.nd rfl (Or.inl rfl))) (fun _ _ _ _ _ => pts_nil)
          (fun _ _ _ _ _ => pe_and (pe_call GI hr rfl mI FI.kp bI .nil pass0 (pa_cons (pv 2) pa_nil)) (pe_one (pe_chain op_le op_le pe_int (pv 2) (pe_glob (v := .int 1000000000000) rfl m2 ⟨_, rfl⟩))))) pa_nil))))), ?_⟩
    refine ⟨_, rfl, _, _, _, _, _, rfl, .ty _, .base (.lst ha), kit_ty (r := true) (by decide +kernel), true, rfl, ?_⟩
    refine iteF ?_
    refine ⟨_, rfl, a, _, rfl, .inl (SqL.of ha), _, rfl, _, _, rfl, rfl, _, rfl, ?_⟩
    refine iteFb (decide_eq_false (by rw [List.length_map]; omega)) ?_
    refine ⟨_, rfl, a, rfl, ⟨_, SqL.of ha⟩, fun D hD => lc_list (a := a) (xs := gs.map V.int) (fun i H' => Same H H' ∧ H' D = some (.lst ((List.replicate i true).map V.bl))) ⟨?_, upd_same⟩ (fun i H' _ p => p.1.seq (SqL.of ha)) (fun i x H' hx p => ?_) (fun H' p => ?_)⟩
    · intro b o e
      rw [upd_ne (ne_of_none e hD)]
      exact e
    · obtain ⟨g, hg, rfl⟩ : ∃ g, gs[i]? = some g ∧ x = .int g := by
        rw [List.getElem?_map] at hx
        cases e : gs[i]? with
        | none => rw [e] at hx; cases hx
        | some g => rw [e] at hx; exact ⟨g, rfl, (Option.some.inj hx).symm⟩
      have hb := ok.2 g (List.mem_of_getElem? hg)
      have hi : i < gs.length := (List.getElem?_eq_some_iff.mp hg).1
      refine ⟨rfl, ?_⟩
      refine yes_t (iteT ?_)
      refine ⟨_, rfl, g, rfl, true, rfl, iteT ?_⟩
      refine ⟨_, rfl, _, _, rfl, rfl, _, rfl, iteTb (decide_eq_true hb.1) ?_⟩
      refine ⟨_, _, rfl, rfl, _, p.2, ?_, fun b o e => ?_, ?_⟩
      · rw [List.length_map, List.length_replicate]
        exact small1000 (by have := ok.1; omega)
      · rw [upd_ne (ne_of_none e hD)]
        exact p.1 b o e
      · rw [upd_same, List.replicate_succ', List.map_append]
        show some (HO.lst (List.map V.bl (List.replicate i true) ++ [V.bl (decide (g ≤ 1000000000000))])) = _
        rw [decide_eq_true hb.2]
        rfl
    · refine ⟨D, _, rfl, SqL.of p.2, ?_⟩
      have e : (List.replicate (gs.map V.int).length true).all id = true := by
        rw [List.all_eq_true]
        intro x hx
        rw [(List.mem_replicate.mp hx).2]
        rfl
      rw [e]
      exact k H' p.1

/-! ### _is_tail -/
def spIsTail : Sp := fun vs H Q _ => ∃ (t : Addr) (tl : Tl) (n : Nat), vs = [.ref t, .int (n : Int)] ∧ H t = some (.tup tl.vs) ∧ TlOk n tl ∧ ∀ H', Same H H' → Q (.bl true) H'
theorem scIsTail : FnScope ["value", "many"] ["value", "many"] (defScope s_is_tail) := ⟨rfl, rfl, rfl, by decide +kernel, rfl, by decide +kernel, by decide +kernel⟩
theorem same_new {H : Hp} {p : Addr} {o : HO} (h : H p = none) : Same H (upd H p o) := fun b u e => by
  rw [upd_ne (ne_of_none e h)]
  exact e
theorem ok_isTail {f C fi : Addr} {fd fdi : FuncData} (F : Fun K "_is_tail" "_is_tail" s_is_tail f fd) (T : Txt K mg C) (FI : Fun K "is_integer" "is_integer" s_is_integer fi fdi) (bI : Binds K fdi ["value"] []) (mI : mg "is_integer" = some (.ref fi)) : FnOk P w K mg base CX0 2 f fd ["value", "many"] spIsTail := by
  have GI : FnOk P w K mg base CX0 1 fi fdi ["value"] spIsInt := ok_isInt FI T
  obtain ⟨t1, m1⟩ := T.mFact
  refine F.ok scIsTail (fun vs H Q E h => ?_) (fun cdv A outer s H vs Q E hr h => ?_)
  · obtain ⟨t, tl, n, rfl, _⟩ := h
    rfl
  · obtain ⟨t, tl, n, rfl, ht, ok, k⟩ := h
    refine ⟨_, (pss_cons (ps_if (PW.pt (pw_or (pt_not (pt_val (pe_callB call_isi (by rfl) T.isi (by decide +kernel) (pa_cons (pv 0) (pa_cons (pe_bltn (v := .ty "tuple") (by rfl) T.tuple (by decide +kernel) rfl) pa_nil))))) (pw_or1 (pt_cmpR op_notIn_seq (pe_callB call_len_seq (by rfl) T.len (by decide +kernel) (pa_cons (pv 0) pa_nil)) (pe_tup (pa_cons pe_int (pa_cons pe_int pa_nil))) (by rfl))))) (pss_one (ps_ret pe_bl)) pss_nil) (pss_cons (ps_if (pt_not (pt_val (pe_callB call_isi (by rfl) T.isi (by decide +kernel) (pa_cons (pe_ix ix_tup (pv 0) pe_int (fun _ _ => rfl)) (pa_cons (pe_bltn (v := .ty "str") (by rfl) T.str (by decide +kernel) rfl) pa_nil))))) (pss_one (ps_ret pe_bl)) pss_nil) (pss_cons (ps_if (pt_cmpR op_eq (pe_callB call_len_seq (by rfl) T.len (by decide +kernel) (pa_cons (pv 0) pa_nil)) pe_int (nomark _)) (pss_one (ps_ret (pe_cmpR op_eq (pe_ix ix_tup (pv 0) pe_int (fun _ _ => rfl)) pe_str (nomark _)))) pss_nil) (pss_cons (ps_if (pt_not (pt_val (pe_call GI hr rfl mI FI.kp bI .nil pass0 (pa_cons (pe_ix ix_tup (pv 0) pe_int (fun _ _ => rfl)) pa_nil)))) (pss_one (ps_ret pe_bl)) pss_nil) (pss_cons (ps_if (pt_cmpR op_eq (pe_ix ix_tup (pv 0) pe_int (fun _ _ => rfl)) pe_str (nomark _)) (pss_one (ps_ret (pe_and (pe_cmpR op_gt (pv 1) pe_int (nomark _)) (pe_one (pe_chain op_le op_le pe_int (pe_ix ix_tup (pv 0) pe_int (fun _ _ => rfl)) (pe_glob (v := .int 1000) rfl m1 ⟨_, rfl⟩)))))) pss_nil) (pss_one (ps_ret (pe_and (pe_cmpR op_eq (pe_ix ix_tup (pv 0) pe_int (fun _ _ => rfl)) pe_str (nomark _)) (pe_one (pe_chain op_le op_le pe_int (pe_ix ix_tup (pv 0) pe_int (fun _ _ => rfl)) (pv 1))))))))))), ?_⟩
    refine ⟨_, rfl, _, _, _, _, _, rfl, .ty _, .base (.tup ht), kit_ty (r := true) (by decide +kernel), true, rfl, ?_⟩
    refine iteF ?_
    refine ⟨_, rfl, t, _, rfl, .inr (SqT.of ht), by show 2 ≤ sizeLine; decide, fun q hq => ?_⟩
    have hS : Same H (upd H q (.tup [.int 1, .int 2])) := same_new hq
    have ht2 := hS t _ ht
    refine ⟨q, _, rfl, .inr (SqT.of upd_same), rfl, rfl, _, rfl, ?_⟩
    cases tl with
    | fin =>
      refine iteFb (by decide +kernel) ?_
      refine ⟨_, rfl, t, _, _, _, rfl, rfl, SqT.of ht2, atI_nat (j := 0) rfl, _, _, _, _, _, rfl, .ty _, .base (.str _), kit_ty (r := true) (by decide +kernel), true, rfl, iteF ?_⟩
      refine ⟨_, rfl, t, _, rfl, .inr (SqT.of ht2), rfl, _, rfl, iteTb (by decide +kernel) ?_⟩
      refine ⟨_, rfl, t, _, _, _, rfl, rfl, SqT.of ht2, atI_nat (j := 0) rfl, rfl, ?_⟩
      exact k _ hS
    | times b =>
      refine iteFb (by show (!inV (V.int 2) [V.int 1, V.int 2]) = false; decide +kernel) ?_
      refine ⟨_, rfl, t, _, _, _, rfl, rfl, SqT.of ht2, atI_nat (j := 0) rfl, _, _, _, _, _, rfl, .ty _, .base (.str _), kit_ty (r := true) (by decide +kernel), true, rfl, iteF ?_⟩
      refine ⟨_, rfl, t, _, rfl, .inr (SqT.of ht2), rfl, _, rfl, iteFb (by show decide (V.int 2 = V.int 1) = false; decide +kernel) ?_⟩
      refine ⟨_, rfl, t, _, _, _, rfl, rfl, SqT.of ht2, atI_nat (j := 1) rfl, b, rfl, true, rfl, iteF ?_⟩
      refine ⟨_, rfl, t, _, _, _, rfl, rfl, SqT.of ht2, atI_nat (j := 0) rfl, rfl, _, rfl, iteTb (by decide +kernel) ?_⟩
      refine ⟨_, rfl, _, _, rfl, rfl, _, rfl, iteTb (decide_eq_true (by have := ok.1; omega)) ?_⟩
      refine ⟨_, rfl, t, _, _, _, rfl, rfl, SqT.of ht2, atI_nat (j := 1) rfl, _, _, rfl, rfl, _, rfl, iteTb (decide_eq_true ok.2.1) ?_⟩
      refine ⟨_, _, rfl, rfl, ?_⟩
      show Q (.bl (decide (b ≤ 1000))) _
      rw [decide_eq_true ok.2.2]
      exact k _ hS
    | rep m =>
      refine iteFb (by show (!inV (V.int 2) [V.int 1, V.int 2]) = false; decide +kernel) ?_
      refine ⟨_, rfl, t, _, _, _, rfl, rfl, SqT.of ht2, atI_nat (j := 0) rfl, _, _, _, _, _, rfl, .ty _, .base (.str _), kit_ty (r := true) (by decide +kernel), true, rfl, iteF ?_⟩
      refine ⟨_, rfl, t, _, rfl, .inr (SqT.of ht2), rfl, _, rfl, iteFb (by show decide (V.int 2 = V.int 1) = false; decide +kernel) ?_⟩
      refine ⟨_, rfl, t, _, _, _, rfl, rfl, SqT.of ht2, atI_nat (j := 1) rfl, _, rfl, true, rfl, iteF ?_⟩
      refine ⟨_, rfl, t, _, _, _, rfl, rfl, SqT.of ht2, atI_nat (j := 0) rfl, rfl, _, rfl, iteFb (by decide +kernel) ?_⟩
      refine ⟨_, rfl, t, _, _, _, rfl, rfl, SqT.of ht2, atI_nat (j := 0) rfl, rfl, true, by decide +kernel, iteT ?_⟩
      refine ⟨_, rfl, t, _, _, _, rfl, rfl, SqT.of ht2, atI_nat (j := 1) rfl, _, _, rfl, rfl, _, rfl, iteTb (decide_eq_true (by have := ok.1; omega)) ?_⟩
      refine ⟨_, rfl, _, _, rfl, rfl, ?_⟩
      show Q (.bl (decide (((m : Nat) : Int) ≤ (n : Int)))) _
      rw [decide_eq_true (show ((m : Nat) : Int) ≤ (n : Int) by have := ok.2; omega)]
      exact k _ hS
end
end RS
/-! ### comprehensions that only make values -/
namespace L2
open PySem PySem.Spec PyProof.Rows
/-- what the first i turns have made -/
def selTo (sel : Nat → Option V) (i : Nat) : List V := (List.range i).filterMap sel
theorem selTo_succ (sel : Nat → Option V) (i : Nat) : selTo sel (i + 1) = selTo sel i ++ (sel i).toList := by
  unfold selTo
  rw [List.range_succ, List.filterMap_append]
  cases h : sel i <;> simp [h]
theorem selTo_le (sel : Nat → Option V) (i : Nat) : (selTo sel i).length ≤ i := by
  unfold selTo
  have := List.length_filterMap_le sel (List.range i)
  rw [List.length_range] at this
  exact this
theorem selTo_get (ys : List V) : ∀ i, i ≤ ys.length → selTo (fun j : Nat => ys[j]?) i = ys.take i
  | 0, _ => rfl
  | i + 1, h => by
    rw [selTo_succ, selTo_get ys i (by omega), List.take_add_one]
theorem same_app {H1 H : Hp} {D : Addr} {o : HO} (hD : H1 D = none) (S : Same H1 H) : Same H1 (upd H D o) := fun b u e => by
  rw [upd_ne (ne_of_none e hD)]
  exact S b u e
theorem small_line {n : Nat} (h : n ≤ 100000) : n < sizeLine := Nat.lt_of_le_of_lt h (by decide +kernel)
/-- xs[i] in a block, K written -/
theorem pe_ixK {X : Cx} (K : PySem.W.Frag) (hK : X.K = K) {o i : Expr} {to ti : TE} {pos : Pos} (ho : PE X o to) (hi : PE X i ti) (hp : PlainIx i := by exact fun _ _ => rfl) : PE X (.Subscript o i pos) (tOp (rIxL K) to ti) := by
  subst hK
  exact pe_ix ix_list ho hi hp
theorem pe_ixTK {X : Cx} (K : PySem.W.Frag) (hK : X.K = K) {o i : Expr} {to ti : TE} {pos : Pos} (ho : PE X o to) (hi : PE X i ti) (hp : PlainIx i := by exact fun _ _ => rfl) : PE X (.Subscript o i pos) (tOp (rIxT K) to ti) := by
  subst hK
  exact pe_ix ix_tup ho hi hp
section
variable {X : Cx} {e tg : Expr} {te : TE} {p pos : Pos}
theorem pi_listK (K : PySem.W.Frag) (hK : X.K = K) (h : PE X e te) : PI X tg e (iList K te) := by
  subst hK
  exact pi_list h
theorem pi_tupK (K : PySem.W.Frag) (hK : X.K = K) (h : PE X e te) : PI X tg e (iTup K te) := by
  subst hK
  exact pi_tup h
theorem pe_allK (K : PySem.W.Frag) (hK : X.K = K) (hc : X.calm = true) (hg : Gl X "all") (hm : X.mg "all" = none) (ha : PE X e te) (hs : starEach [e] X.env = (false, eval e X.env) :: starEach [] X.env := by rfl) : PE X (.Call (.Name "all" p) [e] [] pos) (tCB (rAll K) (tCons te tNil)) := by
  subst hK
  exact pe_callB (cr_all hc) hg hm (by decide +kernel) (pa_cons ha pa_nil hs) (he := hs)
theorem pe_minK (K : PySem.W.Frag) (hK : X.K = K) (hc : X.calm = true) (hg : Gl X "min") (hm : X.mg "min" = none) (ha : PE X e te) (hs : starEach [e] X.env = (false, eval e X.env) :: starEach [] X.env := by rfl) : PE X (.Call (.Name "min" p) [e] [] pos) (tCB (rMin K) (tCons te tNil)) := by
  subst hK
  exact pe_callB (cr_min hc) hg hm (by decide +kernel) (pa_cons ha pa_nil hs) (he := hs)
end
section
variable {K : PySem.W.Frag} {a : Addr} {xs : List V} {g : TG} {tt : TT} {te : TE} {vs : List Nat} {σ : St} {H1 : Hp} {D : Addr} {Qd : Hp → Prop}
/-- over a list: turn i makes sel i, or nothing -/
theorem lc_sel (sel : Nat → Option V) (hx : SqL K H1 a xs) (hD : H1 D = none) (hn : xs.length ≤ 100000)
    (hs : ∀ (i : Nat) (x : V) (H : Hp) (Q : Option V → Hp → Prop), xs[i]? = some x → Same H1 H → (∀ H', Same H H' → Q (sel i) H') → g x (wipe σ vs) H fun σ2 H2 => wipe σ2 vs = wipe σ vs ∧ tt σ2 H2 fun b H3 =>
      if b = true then te σ2 H3 fun y H4 => Q (some y) H4 else Q none H3)
    (hd : ∀ H, Same H1 H → H D = some (.lst (selTo sel xs.length)) → Qd H) :
    ∃ W : Nat → Nat → Hp → Prop, (∃ m, W 0 m (upd H1 D (.lst []))) ∧ ∀ i m H, W i m H →
      ((Itl K a).stop i H ∧ Qd H) ∨ ((Itl K a).go i H ∧ ∃ Nx : Hp → Prop, (∀ H', Nx H' → ∃ m', m' < m ∧ W (i + 1) m' H') ∧ ∀ x H', (Itl K a).yld i H x H' → g x (wipe σ vs) H' fun σ2 H2 => wipe σ2 vs = wipe σ vs ∧ tt σ2 H2 fun b H3 =>
        if b = true then te σ2 H3 fun y H4 => ∃ acc, H4 D = some (.lst acc) ∧ acc.length < sizeLine ∧ Nx (upd H4 D (.lst (acc ++ [y]))) else Nx H3) := by
  refine lc_list (a := a) (xs := xs) (fun i H => i ≤ xs.length ∧ Same H1 H ∧ H D = some (.lst (selTo sel i))) ⟨Nat.zero_le _, same_app hD (fun _ _ e => e), upd_same⟩ (fun i H _ p => p.2.1.seq hx) (fun i x H hi p => ?_) (fun H p => hd H p.2.1 p.2.2)
  have hlt : i < xs.length := (List.getElem?_eq_some_iff.mp hi).1
  refine hs i x H (fun o H' => match o with | some y => ∃ acc, H' D = some (.lst acc) ∧ acc.length < sizeLine ∧ (i + 1 ≤ xs.length ∧ Same H1 (upd H' D (.lst (acc ++ [y]))) ∧ upd H' D (.lst (acc ++ [y])) D = some (.lst (selTo sel (i + 1)))) | none => i + 1 ≤ xs.length ∧ Same H1 H' ∧ H' D = some (.lst (selTo sel (i + 1)))) hi p.2.1 (fun H' S => ?_)
  have hl := selTo_le sel i
  rw [selTo_succ]
  cases sel i with
  | none => exact ⟨hlt, p.2.1.trans S, by simpa using S _ _ p.2.2⟩
  | some y => exact ⟨_, S _ _ p.2.2, small_line (by omega), hlt, same_app hD (p.2.1.trans S), upd_same⟩
/-- over a range -/
theorem lc_selR {lo : Int} {n : Nat} (sel : Nat → Option V) (hD : H1 D = none) (hn : n ≤ 100000)
    (hs : ∀ (i : Nat) (H : Hp) (Q : Option V → Hp → Prop), i < n → Same H1 H → (∀ H', Same H H' → Q (sel i) H') → g (.int (lo + i)) (wipe σ vs) H fun σ2 H2 => wipe σ2 vs = wipe σ vs ∧ tt σ2 H2 fun b H3 =>
      if b = true then te σ2 H3 fun y H4 => Q (some y) H4 else Q none H3)
    (hd : ∀ H, Same H1 H → H D = some (.lst (selTo sel n)) → Qd H) :
    ∃ W : Nat → Nat → Hp → Prop, (∃ m, W 0 m (upd H1 D (.lst []))) ∧ ∀ i m H, W i m H →
      ((Itr lo n).stop i H ∧ Qd H) ∨ ((Itr lo n).go i H ∧ ∃ Nx : Hp → Prop, (∀ H', Nx H' → ∃ m', m' < m ∧ W (i + 1) m' H') ∧ ∀ x H', (Itr lo n).yld i H x H' → g x (wipe σ vs) H' fun σ2 H2 => wipe σ2 vs = wipe σ vs ∧ tt σ2 H2 fun b H3 =>
        if b = true then te σ2 H3 fun y H4 => ∃ acc, H4 D = some (.lst acc) ∧ acc.length < sizeLine ∧ Nx (upd H4 D (.lst (acc ++ [y]))) else Nx H3) := by
  refine lc_range (fun i H => i ≤ n ∧ Same H1 H ∧ H D = some (.lst (selTo sel i))) ⟨Nat.zero_le _, same_app hD (fun _ _ e => e), upd_same⟩ (fun i H hlt p => ?_) (fun H p => hd H p.2.1 p.2.2)
  refine hs i H (fun o H' => match o with | some y => ∃ acc, H' D = some (.lst acc) ∧ acc.length < sizeLine ∧ (i + 1 ≤ n ∧ Same H1 (upd H' D (.lst (acc ++ [y]))) ∧ upd H' D (.lst (acc ++ [y])) D = some (.lst (selTo sel (i + 1)))) | none => i + 1 ≤ n ∧ Same H1 H' ∧ H' D = some (.lst (selTo sel (i + 1)))) hlt p.2.1 (fun H' S => ?_)
  have hl := selTo_le sel i
  rw [selTo_succ]
  cases sel i with
  | none => exact ⟨hlt, p.2.1.trans S, by simpa using S _ _ p.2.2⟩
  | some y => exact ⟨_, S _ _ p.2.2, small_line (by omega), hlt, same_app hD (p.2.1.trans S), upd_same⟩
theorem yes_ite {te : TE} {F : V → Hp → Prop} {N : Hp → Prop} {σ : St} {H : Hp} : (tYes σ H fun b H3 => if b = true then te σ H3 F else N H3) = te σ H F := by simp [tYes]
/-- over a list, without a test: the values ys -/
theorem lc_map (ys : List V) (hx : SqL K H1 a xs) (hD : H1 D = none) (hl : ys.length = xs.length) (hn : xs.length ≤ 100000)
    (hs : ∀ (i : Nat) (x y : V) (H : Hp) (Q : V → Hp → Prop), xs[i]? = some x → ys[i]? = some y → Same H1 H → (∀ H', Same H H' → Q y H') → g x (wipe σ vs) H fun σ2 H2 => wipe σ2 vs = wipe σ vs ∧ te σ2 H2 Q)
    (hd : ∀ H, Same H1 H → H D = some (.lst ys) → Qd H) :
    ∃ W : Nat → Nat → Hp → Prop, (∃ m, W 0 m (upd H1 D (.lst []))) ∧ ∀ i m H, W i m H →
      ((Itl K a).stop i H ∧ Qd H) ∨ ((Itl K a).go i H ∧ ∃ Nx : Hp → Prop, (∀ H', Nx H' → ∃ m', m' < m ∧ W (i + 1) m' H') ∧ ∀ x H', (Itl K a).yld i H x H' → g x (wipe σ vs) H' fun σ2 H2 => wipe σ2 vs = wipe σ vs ∧ tYes σ2 H2 fun b H3 =>
        if b = true then te σ2 H3 fun y H4 => ∃ acc, H4 D = some (.lst acc) ∧ acc.length < sizeLine ∧ Nx (upd H4 D (.lst (acc ++ [y]))) else Nx H3) := by
  refine lc_sel (fun j : Nat => ys[j]?) hx hD hn (fun i x H Q hi S q => ?_) (fun H S h => hd H S (by rw [← hl, selTo_get ys _ (Nat.le_refl _), List.take_length] at h; exact h))
  have hlt : i < xs.length := (List.getElem?_eq_some_iff.mp hi).1
  have hy : ys[i]? = some ys[i] := List.getElem?_eq_getElem (by omega)
  simp only [yes_ite]
  exact hs i x _ H (fun y H' => Q (some y) H') hi hy S fun H' S' => hy ▸ q H' S'
theorem lc_mapR {lo : Int} {n : Nat} (ys : List V) (hD : H1 D = none) (hl : ys.length = n) (hn : n ≤ 100000)
    (hs : ∀ (i : Nat) (y : V) (H : Hp) (Q : V → Hp → Prop), i < n → ys[i]? = some y → Same H1 H → (∀ H', Same H H' → Q y H') → g (.int (lo + i)) (wipe σ vs) H fun σ2 H2 => wipe σ2 vs = wipe σ vs ∧ te σ2 H2 Q)
    (hd : ∀ H, Same H1 H → H D = some (.lst ys) → Qd H) :
    ∃ W : Nat → Nat → Hp → Prop, (∃ m, W 0 m (upd H1 D (.lst []))) ∧ ∀ i m H, W i m H →
      ((Itr lo n).stop i H ∧ Qd H) ∨ ((Itr lo n).go i H ∧ ∃ Nx : Hp → Prop, (∀ H', Nx H' → ∃ m', m' < m ∧ W (i + 1) m' H') ∧ ∀ x H', (Itr lo n).yld i H x H' → g x (wipe σ vs) H' fun σ2 H2 => wipe σ2 vs = wipe σ vs ∧ tYes σ2 H2 fun b H3 =>
        if b = true then te σ2 H3 fun y H4 => ∃ acc, H4 D = some (.lst acc) ∧ acc.length < sizeLine ∧ Nx (upd H4 D (.lst (acc ++ [y]))) else Nx H3) := by
  refine lc_selR (fun j : Nat => ys[j]?) hD hn (fun i H Q hlt S q => ?_) (fun H S h => hd H S (by rw [← hl, selTo_get ys _ (Nat.le_refl _), List.take_length] at h; exact h))
  have hy : ys[i]? = some ys[i] := List.getElem?_eq_getElem (by omega)
  simp only [yes_ite]
  exact hs i _ H (fun y H' => Q (some y) H') hlt hy S fun H' S' => hy ▸ q H' S'
end
end L2
namespace RS
open PySem L2
theorem kGT : ¬ (("_gaps" : Str) = "_tail") := by decide +kernel
theorem kGO : ¬ (("_gaps" : Str) = "_offsets") := by decide +kernel
theorem kTO : ¬ (("_tail" : Str) = "_offsets") := by decide +kernel
def flds (g t o : Addr) : List (Str × V) := putF "_offsets" (.ref o) (putF "_tail" (.ref t) (putF "_gaps" (.ref g) []))
theorem flds_g (g t o : Addr) : (flds g t o).lookup ("_gaps" : Str) = some (.ref g) := by
  unfold flds
  rw [lookup_putF, if_neg kGO, lookup_putF, if_neg kGT, lookup_putF, if_pos rfl]
theorem flds_t (g t o : Addr) : (flds g t o).lookup ("_tail" : Str) = some (.ref t) := by
  unfold flds
  rw [lookup_putF, if_neg kTO, lookup_putF, if_pos rfl]
theorem flds_o (g t o : Addr) : (flds g t o).lookup ("_offsets" : Str) = some (.ref o) := by
  unfold flds
  rw [lookup_putF, if_pos rfl]
theorem flds_no (g t o : Addr) {m : Str} (h1 : ¬ m = "_offsets") (h2 : ¬ m = "_tail") (h3 : ¬ m = "_gaps") : (flds g t o).lookup m = none := by
  unfold flds
  rw [lookup_putF, if_neg h1, lookup_putF, if_neg h2, lookup_putF, if_neg h3]
  rfl
/-- a rule stands at p -/
structure RuleAt (C : Addr) (H : Hp) (p g t o : Addr) (gs : List Int) (tl : Tl) : Prop where
  ob : ∃ dx, H p = some (.ins C dx (flds g t o))
  hg : H g = some (.lst (gs.map V.int))
  ht : H t = some (.tup tl.vs)
  ho : H o = some (.lst ((offs gs).map V.int))
  okG : GapsOk gs
  okT : TlOk gs.length tl
theorem RuleAt.mono {C : Addr} {H H' : Hp} {p g t o : Addr} {gs : List Int} {tl : Tl} (R : RuleAt C H p g t o gs tl) (h : Same H H') : RuleAt C H' p g t o gs tl :=
  ⟨let ⟨dx, e⟩ := R.ob; ⟨dx, h _ _ e⟩, h _ _ R.hg, h _ _ R.ht, h _ _ R.ho, R.okG, R.okT⟩
theorem map_of {xs : List Int} {i : Nat} {x : V} (hx : (xs.map V.int)[i]? = some x) : ∃ g, xs[i]? = some g ∧ x = .int g := by
  rw [List.getElem?_map] at hx
  cases e : xs[i]? with
  | none => rw [e] at hx; cases hx
  | some g => rw [e] at hx; exact ⟨g, rfl, (Option.some.inj hx).symm⟩

section
variable {P : Program} {w : World} {K : PySem.W.Frag} {mg : Str → Option Value} {base : Heap}
/-! ### _sums -/
def spSums : Sp := fun vs H Q _ => ∃ a gs, vs = [.ref a] ∧ H a = some (.lst (gs.map V.int)) ∧ gs.length ≤ 100 ∧ ∀ p H', H p = none → Same H H' → H' p = some (.lst ((offs gs).map V.int)) → Q (.ref p) H'
theorem scSums : FnScope ["gaps", "offsets", "gap"] ["gaps"] (defScope s_sums) := ⟨rfl, rfl, rfl, by decide +kernel, rfl, by decide +kernel, by decide +kernel⟩
theorem ok_sums {f : Addr} {fd : FuncData} (F : Fun K "sums" "sums" s_sums f fd) : FnOk P w K mg base CX0 1 f fd ["gaps"] spSums := by
  refine F.ok scSums (fun vs H Q E h => ?_) (fun cdv A outer s H vs Q E hr h => ?_)
  · obtain ⟨a, gs, rfl, _⟩ := h
    rfl
  · obtain ⟨a, gs, rfl, ha, hn, k⟩ := h
    refine ⟨_, (pss_cons (ps_set (i := 1) scSums.nd rfl (Or.inl rfl) (pe_lst (pa_cons pe_int pa_nil))) (pss_cons (ps_for PassesOwn.never rfl (pi_list (pv 0)) (pg_name (i := 2) scSums.nd rfl (Or.inl rfl)) (pss_one (ps_expr (pe_bm PySem.F.plainAttrs_list PySem.F.slot_list_append PySem.F.type_list_append mt_append (pv 1) (pa_cons (pe_op op_add (pe_ix ix_list (pv 1) (pe_un un_neg pe_int) (fun _ _ => rfl)) (pv 2)) pa_nil))))) (pss_one (ps_ret (pv 1))))), ?_⟩
    refine ⟨by show 1 ≤ sizeLine; decide, fun l hl => ?_⟩
    have S0 : Same H (upd H l (.lst [.int 0])) := same_new hl
    refine ⟨_, rfl, a, rfl, ⟨_, SqL.of (S0 _ _ ha)⟩, for_list (a := a) (xs := gs.map V.int) (fun i σ H' => ∃ v, σ = [some (.ref a), some (.ref l), v] ∧ Same H H' ∧ H' l = some (.lst (((List.range (i + 1)).map (pre gs)).map V.int))) ⟨none, rfl, S0, upd_same⟩ (fun i σ H' _ ⟨v, _, S, _⟩ => SqL.of (S _ _ ha)) ?_ ?_⟩
    · rintro i x σ H' hx ⟨v, rfl, S, hl'⟩
      obtain ⟨g, hg, rfl⟩ := map_of hx
      have hi : i < gs.length := (List.getElem?_eq_some_iff.mp hg).1
      have hz : (((List.range (i + 1)).map (pre gs)).map V.int).length = i + 1 := by simp
      refine ⟨_, rfl, .inl ⟨rfl, _, SqL.of hl'⟩, _, rfl, _, rfl, l, _, _, _, rfl, rfl, SqL.of hl', at_back1 (v := .int (pre gs i)) (by rw [hz]; omega) ?_, _, rfl, _, _, rfl, rfl, l, _, _, rfl, rfl, hl', by rw [hz]; exact small1000 (by omega), ?_⟩
      · rw [hz, List.getElem?_map, List.getElem?_map, List.getElem?_range (by omega)]
        rfl
      · refine ⟨_, rfl, fun b o e => ?_, ?_⟩
        · rw [upd_ne (ne_of_none e hl)]
          exact S b o e
        · rw [upd_same, List.range_succ (n := i + 1), List.map_append, List.map_append]
          show _ = some (HO.lst (_ ++ [V.int (pre gs (i + 1))]))
          rw [pre_succ gs hg]
    · rintro σ H' ⟨v, rfl, S, hl'⟩
      rw [List.length_map] at hl'
      exact ⟨_, rfl, k l H' hl S hl'⟩

/-! ### _power -/
def spPower : Sp := fun vs H Q _ => ∃ (b : Int) (e : Nat), vs = [.int b, .int (e : Int)] ∧ 0 ≤ b ∧ b < 1024 ∧ e ≤ 1024 ∧ Q (.int (b ^ e)) H
theorem scPower : FnScope ["base", "exponent", "result"] ["base", "exponent"] (defScope s_power) := ⟨rfl, rfl, rfl, by decide +kernel, rfl, by decide +kernel, by decide +kernel⟩
theorem pow_small {b : Int} {n : Nat} (h0 : 0 ≤ b) (h1 : b < 1024) (hn : n ≤ 2048) : (b ^ n).natAbs < 2 ^ 20481 := by
  rw [Int.natAbs_pow]
  have h2 : b.natAbs ≤ 2 ^ 10 := by omega
  have h3 : b.natAbs ^ n ≤ (2 ^ 10) ^ n := Nat.pow_le_pow_left h2 n
  rw [← Nat.pow_mul] at h3
  have h4 : 2 ^ (10 * n) < 2 ^ 20481 := Nat.pow_lt_pow_right (by decide) (by omega)
  omega
theorem half_mod (e k : Nat) : e % 2 ^ (k + 1) = e % 2 ^ k + 2 ^ k * (e / 2 ^ k % 2) := by
  rw [Nat.pow_succ, Nat.mod_mul]
theorem half_div (e k : Nat) : e / 2 ^ k / 2 = e / 2 ^ (k + 1) := by
  rw [Nat.pow_succ, Nat.div_div_eq_div_mul]
theorem ok_power {f : Addr} {fd : FuncData} (F : Fun K "_power" "_power" s_power f fd) : FnOk P w K mg base CX0 1 f fd ["base", "exponent"] spPower := by
  refine F.ok scPower (fun vs H Q E h => ?_) (fun cdv A outer s H vs Q E hr h => ?_)
  · obtain ⟨b, e, rfl, _⟩ := h
    rfl
  · obtain ⟨b, e, rfl, b0, b1, he, k⟩ := h
    refine ⟨_, (pss_cons (ps_set (i := 2) scPower.nd rfl (Or.inl rfl) pe_int) (pss_cons (ps_while PassesOwn.never (pt_cmpR op_gt (pv 1) pe_int (nomark _)) (pss_cons (ps_if (pt_cmpR op_eq (pe_op op_odd (pv 1) pe_int) pe_int (nomark _)) (pss_one (ps_set (i := 2) scPower.nd rfl (Or.inl rfl) (pe_op op_mulW (pv 2) (pv 0)))) pss_nil) (pss_cons (ps_set (i := 0) scPower.nd rfl (Or.inl rfl) (pe_op op_mulW (pv 0) (pv 0))) (pss_one (ps_set (i := 1) scPower.nd rfl (Or.inl rfl) (pe_op op_halfN (pv 1) pe_int)))))) (pss_one (ps_ret (pv 2))))), ?_⟩
    refine ⟨fun m σ H' => H' = H ∧ ∃ j, m = e / 2 ^ j ∧ σ = [some (.int (b ^ (2 ^ j))), some (.int ((e / 2 ^ j : Nat) : Int)), some (.int (b ^ (e % 2 ^ j)))], ⟨e, rfl, 0, by simp, by simp [L2.start, Nat.mod_one]; rw [Int.pow_succ, Int.pow_zero, Int.one_mul]⟩, ?_⟩
    rintro m σ H' ⟨rfl, j, rfl, rfl⟩
    refine ⟨_, rfl, _, _, rfl, rfl, _, rfl, ?_⟩
    by_cases hz : 0 < e / 2 ^ j
    · refine iteTb (decide_eq_true (by omega)) ?_
      have hj : 2 ^ j ≤ e := by
        by_cases hlt : e < 2 ^ j
        · rw [Nat.div_eq_of_lt hlt] at hz; omega
        · omega
      have hj1 : (b ^ (2 ^ j)).natAbs < 2 ^ 20481 := pow_small b0 b1 (by omega)
      have hm : e % 2 ^ j < 2 ^ j := Nat.mod_lt _ (Nat.pow_pos (by decide))
      have hr1 : (b ^ (e % 2 ^ j)).natAbs < 2 ^ 20481 := pow_small b0 b1 (by omega)
      refine ⟨fun σ' H2 => H2 = H' ∧ σ' = [some (.int (b ^ (2 ^ (j + 1)))), some (.int ((e / 2 ^ (j + 1) : Nat) : Int)), some (.int (b ^ (e % 2 ^ (j + 1))))], ?_, ?_⟩
      · rintro σ' H2 ⟨rfl, rfl⟩
        refine ⟨e / 2 ^ (j + 1), ?_, rfl, j + 1, rfl, rfl⟩
        rw [← half_div]
        omega
      · have e2 : b ^ 2 ^ j * b ^ 2 ^ j = b ^ 2 ^ (j + 1) := by
          rw [← Int.pow_add, Nat.pow_succ, Nat.mul_two]
        refine ⟨_, rfl, e / 2 ^ j, rfl, rfl, rfl, _, rfl, ?_⟩
        rcases Nat.mod_two_eq_zero_or_one (e / 2 ^ j) with h2 | h2
        · refine iteFb (decide_eq_false (by rw [h2]; intro z; cases z)) ?_
          refine ⟨_, rfl, _, rfl, _, _, rfl, rfl, wide_mul hj1 hj1 (by decide) (by decide) (by decide), ?_⟩
          refine ⟨_, rfl, e / 2 ^ j, rfl, rfl, rfl, ?_⟩
          rw [half_mod, h2, Nat.mul_zero, Nat.add_zero, ← half_div, ← e2]
          rfl
        · refine iteTb (decide_eq_true (by rw [h2]; rfl)) ?_
          refine ⟨_, rfl, _, rfl, _, _, rfl, rfl, wide_mul hr1 hj1 (by decide) (by decide) (by decide), ?_⟩
          refine ⟨_, rfl, _, rfl, _, _, rfl, rfl, wide_mul hj1 hj1 (by decide) (by decide) (by decide), ?_⟩
          refine ⟨_, rfl, e / 2 ^ j, rfl, rfl, rfl, ?_⟩
          rw [half_mod, h2, Nat.mul_one, Int.pow_add, ← half_div, ← e2]
          rfl
    · refine iteFb (decide_eq_false (by omega)) ?_
      have hlt : e % 2 ^ j = e := by
        refine Nat.mod_eq_of_lt ?_
        have := Nat.lt_div_mul_add (a := e) (b := 2 ^ j) (Nat.pow_pos (by decide))
        have h0 : e / 2 ^ j = 0 := Nat.eq_zero_of_not_pos hz
        rw [h0] at this
        omega
      refine ⟨_, rfl, ?_⟩
      rw [hlt]
      exact k
end
end RS
namespace RS
open PySem L2
def Tl.word : Tl → Str
  | .fin => "end"
  | .times _ => "times"
  | .rep _ => "repeat"
theorem Tl.at0 (tl : Tl) : atI tl.vs 0 = some (.str tl.word) := by cases tl <;> exact atI_nat (j := 0) rfl
theorem wEE : decide (V.str "end" = V.str "end") = true := by decide +kernel
theorem wET : decide (V.str "end" = V.str "times") = false := by decide +kernel
theorem wER : decide (V.str "end" = V.str "repeat") = false := by decide +kernel
theorem wTE : decide (V.str "times" = V.str "end") = false := by decide +kernel
theorem wTT : decide (V.str "times" = V.str "times") = true := by decide +kernel
theorem wTR : decide (V.str "times" = V.str "repeat") = false := by decide +kernel
theorem wRE : decide (V.str "repeat" = V.str "end") = false := by decide +kernel
theorem wRT : decide (V.str "repeat" = V.str "times") = false := by decide +kernel
theorem wRR : decide (V.str "repeat" = V.str "repeat") = true := by decide +kernel
def lastG (gs : List Int) : Int := gs.getD (gs.length - 1) 0
def per (gs : List Int) (m : Nat) : Int := pre gs gs.length - pre gs (gs.length - m)
def off (gs : List Int) (tl : Tl) (n : Nat) : Int :=
  if n ≤ gs.length then pre gs n else match tl with
  | .fin => 0
  | .times b => pre gs gs.length + lastG gs * b * (b ^ (n - gs.length) - 1) / (b - 1)
  | .rep m => pre gs (gs.length - m + (n - gs.length) % m) + (((n - gs.length) / m : Nat) + 1) * per gs m
def gapf (gs : List Int) (tl : Tl) (n : Nat) : Int :=
  if n < gs.length then gs.getD n 0 else match tl with
  | .fin => 0
  | .times b => lastG gs * b ^ (n - gs.length + 1)
  | .rep m => gs.getD (gs.length - m + (n - gs.length) % m) 0
/-- an attempt that is answered -/
def AttOk (gs : List Int) (tl : Tl) (n : Nat) : Prop := match tl with
  | .fin => n ≤ gs.length
  | .times _ => n ≤ 1000
  | .rep _ => True
theorem AttOk.low {gs : List Int} {tl : Tl} (okG : GapsOk gs) {n : Nat} (h : n ≤ gs.length) : AttOk gs tl n := by
  cases tl with
  | fin => exact h
  | times b => have := okG.1; show n ≤ 1000; omega
  | rep m => exact True.intro
theorem getD_get {gs : List Int} {k : Nat} (h : k < gs.length) : gs[k]? = some (gs.getD k 0) := by
  rw [List.getD_eq_getElem?_getD, List.getElem?_eq_getElem h]
  rfl
theorem gap_bd {gs : List Int} (ok : GapsOk gs) {k : Nat} (h : k < gs.length) : 1 ≤ gs.getD k 0 ∧ gs.getD k 0 ≤ 1000000000000 := ok.2 _ (List.mem_of_getElem? (getD_get h))
theorem pre_le {gs : List Int} (ok : GapsOk gs) : ∀ k, k ≤ gs.length → (k : Int) ≤ pre gs k ∧ pre gs k ≤ 1000000000000 * k
  | 0, _ => by rw [pre_zero]; omega
  | k + 1, h => by
    have ih := pre_le ok k (by omega)
    have b := gap_bd ok (k := k) (by omega)
    rw [pre_succ gs (getD_get (by omega))]
    omega
theorem pre_mono {gs : List Int} (ok : GapsOk gs) (i : Nat) : ∀ k, i + k ≤ gs.length → pre gs i + k ≤ pre gs (i + k)
  | 0, _ => by simp
  | k + 1, h => by
    have ih := pre_mono ok i k (by omega)
    have b := gap_bd ok (k := i + k) (by omega)
    rw [show i + (k + 1) = (i + k) + 1 by omega, pre_succ gs (getD_get (by omega))]
    omega
theorem per_bd {gs : List Int} (ok : GapsOk gs) {m : Nat} (h1 : 1 ≤ m) (h2 : m ≤ gs.length) : (m : Int) ≤ per gs m ∧ per gs m ≤ 20000000000000 := by
  have a := pre_mono ok (gs.length - m) m (by omega)
  have b := pre_le ok (gs.length - m) (by omega)
  have c := pre_le ok gs.length (Nat.le_refl _)
  have d := ok.1
  rw [show gs.length - m + m = gs.length by omega] at a
  unfold per
  omega

section
variable {P : Program} {w : World} {K : PySem.W.Frag} {mg : Str → Option Value} {base : Heap}
/-! ### a rule's attributes, read -/
section
variable {C p g t o : Addr} {gs : List Int} {tl : Tl} {H : Hp} {σ : L2.St} {i : Nat}
theorem rdG {Q : VK} (T : Txt K mg C) (R : RuleAt C H p g t o gs tl) (hi : σ[i]? = some (some (.ref p))) (q : Q (.ref g) H) : tFld K (tVar i) "_gaps" σ H Q := by
  obtain ⟨dx, h⟩ := R.ob
  exact ⟨_, hi, p, C, dx, _, _, rfl, h, T.cl, T.nG, flds_g _ _ _, q⟩
theorem rdT {Q : VK} (T : Txt K mg C) (R : RuleAt C H p g t o gs tl) (hi : σ[i]? = some (some (.ref p))) (q : Q (.ref t) H) : tFld K (tVar i) "_tail" σ H Q := by
  obtain ⟨dx, h⟩ := R.ob
  exact ⟨_, hi, p, C, dx, _, _, rfl, h, T.cl, T.nT, flds_t _ _ _, q⟩
theorem rdO {Q : VK} (T : Txt K mg C) (R : RuleAt C H p g t o gs tl) (hi : σ[i]? = some (some (.ref p))) (q : Q (.ref o) H) : tFld K (tVar i) "_offsets" σ H Q := by
  obtain ⟨dx, h⟩ := R.ob
  exact ⟨_, hi, p, C, dx, _, _, rfl, h, T.cl, T.nO, flds_o _ _ _, q⟩
theorem rdOx {te : TE} {Q : VK} (T : Txt K mg C) (R : RuleAt C H p g t o gs tl) (hi : σ[i]? = some (some (.ref p))) (q : te σ H fun y H2 => rIxL K (.ref o) y H2 Q) : tOp (rIxL K) (tFld K (tVar i) "_offsets") te σ H Q := by
  dsimp only [tOp]
  exact rdO T R hi q
theorem rdGx {te : TE} {Q : VK} (T : Txt K mg C) (R : RuleAt C H p g t o gs tl) (hi : σ[i]? = some (some (.ref p))) (q : te σ H fun y H2 => rIxL K (.ref g) y H2 Q) : tOp (rIxL K) (tFld K (tVar i) "_gaps") te σ H Q := by
  dsimp only [tOp]
  exact rdG T R hi q
theorem rdIs {s : Str} {Q : Bool → Hp → Prop} (T : Txt K mg C) (R : RuleAt C H p g t o gs tl) (hi : σ[i]? = some (some (.ref p))) (q : Q (decide (V.str tl.word = V.str s)) H) :
    tTest (tOp rEq (tOp (rIxT K) (tFld K (tVar i) "_tail") (tC (.int 0))) (tC (.str s))) σ H Q := by
  dsimp only [tTest, tOp]
  exact rdT T R hi ⟨t, _, _, _, rfl, rfl, SqT.of R.ht, tl.at0, rfl, _, rfl, q⟩
theorem rdNe {s : Str} {Q : Bool → Hp → Prop} (T : Txt K mg C) (R : RuleAt C H p g t o gs tl) (hi : σ[i]? = some (some (.ref p))) (q : Q (!decide (V.str tl.word = V.str s)) H) :
    tTest (tOp rNe (tOp (rIxT K) (tFld K (tVar i) "_tail") (tC (.int 0))) (tC (.str s))) σ H Q := by
  dsimp only [tTest, tOp]
  exact rdT T R hi ⟨t, _, _, _, rfl, rfl, SqT.of R.ht, tl.at0, rfl, _, rfl, q⟩
theorem rdB {b : Int} {Q : VK} (T : Txt K mg C) (R : RuleAt C H p g t o gs (.times b)) (hi : σ[i]? = some (some (.ref p))) (q : Q (.int b) H) : tOp (rIxT K) (tFld K (tVar i) "_tail") (tC (.int 1)) σ H Q :=
  rdT T R hi ⟨t, _, _, _, rfl, rfl, SqT.of R.ht, atI_nat (j := 1) rfl, q⟩
theorem rdN {m : Nat} {Q : VK} (T : Txt K mg C) (R : RuleAt C H p g t o gs (.rep m)) (hi : σ[i]? = some (some (.ref p))) (q : Q (.int (m : Int)) H) : tOp (rIxT K) (tFld K (tVar i) "_tail") (tC (.int 1)) σ H Q :=
  rdT T R hi ⟨t, _, _, _, rfl, rfl, SqT.of R.ht, atI_nat (j := 1) rfl, q⟩
theorem rdLast {Q : VK} (T : Txt K mg C) (R : RuleAt C H p g t o gs tl) (hi : σ[i]? = some (some (.ref p))) (h0 : 0 < gs.length) (q : Q (.int (lastG gs)) H) :
    tOp (rIxL K) (tFld K (tVar i) "_gaps") (tUn (rU fun i => .int (-i)) (tC (.int 1))) σ H Q :=
  rdG T R hi ⟨_, rfl, g, _, _, _, rfl, rfl, SqL.of R.hg, at_back1 (by rw [List.length_map]; exact h0) (by rw [List.length_map, List.getElem?_map, getD_get (by omega)]; rfl), q⟩
theorem rdLastO {Q : VK} (T : Txt K mg C) (R : RuleAt C H p g t o gs tl) (hi : σ[i]? = some (some (.ref p))) (q : Q (.int (pre gs gs.length)) H) :
    tOp (rIxL K) (tFld K (tVar i) "_offsets") (tUn (rU fun i => .int (-i)) (tC (.int 1))) σ H Q :=
  rdO T R hi ⟨_, rfl, o, _, _, _, rfl, rfl, SqL.of R.ho, at_back1 (by rw [List.length_map, offs_len]; omega) (by rw [List.length_map, offs_len, List.getElem?_map, offs_get gs (by omega)]; rfl), q⟩
end
/-! ### Rule.__init__ -/
def spInit (C : Addr) : Sp := fun vs H Q _ => ∃ (p dx a t : Addr) (gs : List Int) (tl : Tl), vs = [.ref p, .ref a, .ref t] ∧ H p = some (.ins C dx []) ∧ H a = some (.lst (gs.map V.int)) ∧ H t = some (.tup tl.vs) ∧ GapsOk gs ∧ TlOk gs.length tl ∧
  ∀ (g o : Addr) (H' : Hp), H g = none → H o = none → (∀ b u, H b = some u → b ≠ p → H' b = some u) → RuleAt C H' p g t o gs tl → Q .non H'
theorem scInit : FnScope ["self", "gaps", "tail"] ["self", "gaps", "tail"] (defScope s_Rule_ddinitdd) := ⟨rfl, rfl, rfl, by decide +kernel, rfl, by decide +kernel, by decide +kernel⟩
theorem ok_init {f C fA fB fS fi : Addr} {fd fdA fdB fdS fdi : FuncData} (F : Fun K "__init__" "Rule.__init__" s_Rule_ddinitdd f fd) (T : Txt K mg C) (FI : Fun K "is_integer" "is_integer" s_is_integer fi fdi) (bI : Binds K fdi ["value"] []) (mI : mg "is_integer" = some (.ref fi))
    (FA : Fun K "are_gaps" "are_gaps" s_are_gaps fA fdA) (bA : Binds K fdA ["value", "most"] []) (mA : mg "are_gaps" = some (.ref fA)) (FB : Fun K "_is_tail" "_is_tail" s_is_tail fB fdB) (bB : Binds K fdB ["value", "many"] []) (mB : mg "_is_tail" = some (.ref fB))
    (FS : Fun K "sums" "sums" s_sums fS fdS) (bS : Binds K fdS ["gaps"] []) (mS : mg "sums" = some (.ref fS)) : FnOk P w K mg base CX0 3 f fd ["self", "gaps", "tail"] (spInit C) := by
  have GA : FnOk P w K mg base CX0 2 fA fdA ["value", "most"] spAreGaps := ok_areGaps FA T FI bI mI
  have GB : FnOk P w K mg base CX0 2 fB fdB ["value", "many"] spIsTail := ok_isTail FB T FI bI mI
  have GS : FnOk P w K mg base CX0 1 fS fdS ["gaps"] spSums := ok_sums FS
  obtain ⟨t1, m1⟩ := T.mMost
  refine F.ok scInit (fun vs H Q E h => ?_) (fun cdv A outer s H vs Q E hr h => ?_)
  · obtain ⟨p, dx, a, t, gs, tl, rfl, _⟩ := h
    rfl
  · obtain ⟨p, dx, a, t, gs, tl, rfl, hp, ha, ht, okG, okT, k⟩ := h
    refine ⟨_, (pss_cons (ps_if (pt_not (pt_val (pe_call GA hr rfl mA FA.kp bA .nil pass0 (pa_cons (pv 1) (pa_cons (pe_glob (v := .int 20) rfl m1 ⟨_, rfl⟩) pa_nil))))) (pss_one ps_never) pss_nil) (pss_cons (ps_if (pt_not (pt_val (pe_call GB hr rfl mB FB.kp bB .nil pass0 (pa_cons (pv 2) (pa_cons (pe_callB call_len_seq (by rfl) T.len (by decide +kernel) (pa_cons (pv 1) pa_nil)) pa_nil))))) (pss_one ps_never) pss_nil) (pss_cons (ps_fld (pv 0) (pe_callTy call_list_of (by rfl) T.list (by decide +kernel) (pa_cons (pv 1) pa_nil)) rfl) (pss_cons (ps_fld (pv 0) (pe_callTy call_tuple_of (by rfl) T.tuple (by decide +kernel) (pa_cons (pv 2) pa_nil)) rfl) (pss_one (ps_fld (pv 0) (pe_call GS (hr.mono (by decide)) rfl mS FS.kp bS .nil pass0 (pa_cons (pe_fld (pv 0) rfl) pa_nil)) rfl)))))), ?_⟩
    refine ⟨_, rfl, a, gs, 20, rfl, ha, okG, okG.1, fun H1 S1 => ⟨true, rfl, iteF ?_⟩⟩
    refine ⟨_, rfl, _, rfl, a, _, rfl, .inl (SqL.of (S1 _ _ ha)), t, tl, gs.length, ?_, S1 _ _ ht, okT, fun H2 S2 => ⟨true, rfl, iteF ?_⟩⟩
    · rw [List.length_map]
      rfl
    have S := S1.trans S2
    refine ⟨_, rfl, a, _, rfl, .inl (SqL.of (S _ _ ha)), fun g hg2 => ?_⟩
    have hg : H g = none := S.free hg2
    have npg : p ≠ g := ne_of_none hp hg
    have ntg : t ≠ g := ne_of_none ht hg
    have nag : a ≠ g := ne_of_none ha hg
    have npt : t ≠ p := ne_of ht hp (by intro z; cases z)
    have npa : a ≠ p := ne_of ha hp (by intro z; cases z)
    refine ⟨_, rfl, p, C, dx, [], rfl, (by rw [upd_ne npg]; exact S _ _ hp), T.cl, T.nG, (by show 0 < 1000; decide), ?_⟩
    refine ⟨_, rfl, t, _, rfl, .inr ⟨SqT.of (by rw [upd_ne npt, upd_ne ntg]; exact S _ _ ht), ?_⟩⟩
    refine ⟨_, rfl, p, C, dx, _, rfl, upd_same, T.cl, T.nT, (by show 1 < 1000; decide), ?_⟩
    have hgl : (putF "_tail" (.ref t) (putF "_gaps" (.ref g) [])).lookup ("_gaps" : Str) = some (V.ref g) := by
      rw [lookup_putF, if_neg kGT, lookup_putF, if_pos rfl]
    refine ⟨_, rfl, p, C, dx, _, _, rfl, upd_same, T.cl, T.nG, hgl, ?_⟩
    refine ⟨g, gs, rfl, (by rw [upd_ne npg.symm, upd_ne npg.symm, upd_same]), (by have := okG.1; omega), fun o H3 ho S3 ho3 => ?_⟩
    have hp3 := S3 _ _ (upd_same (H := upd (upd H2 g (.lst (gs.map V.int))) p (.ins C dx (putF "_gaps" (.ref g) []))) (a := p) (o := .ins C dx (putF "_tail" (.ref t) (putF "_gaps" (.ref g) []))))
    have npo : p ≠ o := ne_of_none (upd_same (H := upd (upd H2 g (.lst (gs.map V.int))) p (.ins C dx (putF "_gaps" (.ref g) []))) (a := p)) ho
    have ngo : g ≠ o := by
      refine ne_of_none (H := upd (upd (upd H2 g (.lst (gs.map V.int))) p (.ins C dx (putF "_gaps" (.ref g) []))) p (.ins C dx (putF "_tail" (.ref t) (putF "_gaps" (.ref g) [])))) (o := .lst (gs.map V.int)) ?_ ho
      rw [upd_ne npg.symm, upd_ne npg.symm, upd_same]
    have hoH : H o = none := by
      refine S.free ?_
      rw [upd_ne npo.symm, upd_ne npo.symm, upd_ne ngo.symm] at ho
      exact ho
    refine ⟨_, rfl, p, C, dx, _, rfl, hp3, T.cl, T.nO, (by show 2 < 1000; decide), ?_⟩
    refine k g o _ hg hoH (fun b u e nb => ?_) ⟨⟨dx, upd_same⟩, ?_, ?_, ?_, okG, okT⟩
    · rw [upd_ne nb]
      refine S3 _ _ ?_
      rw [upd_ne nb, upd_ne nb, upd_ne (ne_of_none e hg)]
      exact S _ _ e
    · rw [upd_ne npg.symm]
      refine S3 _ _ ?_
      rw [upd_ne npg.symm, upd_ne npg.symm, upd_same]
    · rw [upd_ne npt]
      refine S3 _ _ ?_
      rw [upd_ne npt, upd_ne npt, upd_ne ntg]
      exact S _ _ ht
    · rw [upd_ne npo.symm]
      exact ho3

end
end RS
namespace RS
open PySem L2
section
variable {P : Program} {w : World} {K : PySem.W.Frag} {mg : Str → Option Value} {base : Heap}
/-! ### attempts, _first_repeating, period -/
def attV (gs : List Int) : Tl → V
  | .fin => .int ((gs.length : Int) + 1)
  | _ => .non
def spAtt (C : Addr) : Sp := fun vs H Q _ => ∃ (p g t o : Addr) (gs : List Int) (tl : Tl), vs = [.ref p] ∧ RuleAt C H p g t o gs tl ∧ Q (attV gs tl) H
theorem scSelf_attempts : FnScope ["self"] ["self"] (defScope s_Rule_attempts) := ⟨rfl, rfl, rfl, by decide +kernel, rfl, by decide +kernel, by decide +kernel⟩
theorem ok_attempts {f C : Addr} {fd : FuncData} (F : Fun K "attempts" "Rule.attempts" s_Rule_attempts f fd) (T : Txt K mg C) : FnOk P w K mg base CX0 1 f fd ["self"] (spAtt C) := by
  refine F.ok scSelf_attempts (fun vs H Q E h => ?_) (fun cdv A outer s H vs Q E hr h => ?_)
  · obtain ⟨p, g, t, o, gs, tl, rfl, _⟩ := h
    rfl
  · obtain ⟨p, g, t, o, gs, tl, rfl, R, k⟩ := h
    refine ⟨_, (pss_cons (ps_if (pt_cmpR op_eq (pe_ix ix_tup (pe_fld (pv 0) rfl) pe_int (fun _ _ => rfl)) pe_str (nomark _)) (pss_one (ps_ret (pe_callB call_len_seq (by rfl) T.len (by decide +kernel) (pa_cons (pe_fld (pv 0) rfl) pa_nil)))) pss_nil) (pss_one (ps_ret pe_non))), ?_⟩
    refine rdIs T R rfl ?_
    cases tl with
    | fin =>
      refine iteTb wEE ?_
      refine rdO T R rfl ⟨o, _, rfl, .inl (SqL.of R.ho), ?_⟩
      rw [List.length_map, offs_len]
      exact k
    | times b => exact iteFb wTE k
    | rep m => exact iteFb wRE k
def spFR (C : Addr) : Sp := fun vs H Q _ => ∃ (p g t o : Addr) (gs : List Int) (m : Nat), vs = [.ref p] ∧ RuleAt C H p g t o gs (.rep m) ∧ Q (.int ((gs.length - m : Nat) : Int)) H
theorem scSelf_fr : FnScope ["self"] ["self"] (defScope s_Rule_first_repeating) := ⟨rfl, rfl, rfl, by decide +kernel, rfl, by decide +kernel, by decide +kernel⟩
def frV (gs : List Int) : Tl → V
  | .rep m => .int ((gs.length - m : Nat) : Int)
  | _ => .non
def spFRA (C : Addr) : Sp := fun vs H Q _ => ∃ (p g t o : Addr) (gs : List Int) (tl : Tl), vs = [.ref p] ∧ RuleAt C H p g t o gs tl ∧ Q (frV gs tl) H
theorem ok_frA {f C : Addr} {fd : FuncData} (F : Fun K "first_repeating" "Rule.first_repeating" s_Rule_first_repeating f fd) (T : Txt K mg C) : FnOk P w K mg base CX0 1 f fd ["self"] (spFRA C) := by
  refine F.ok scSelf_fr (fun vs H Q E h => ?_) (fun cdv A outer s H vs Q E hr h => ?_)
  · obtain ⟨p, g, t, o, gs, tl, rfl, _⟩ := h
    rfl
  · obtain ⟨p, g, t, o, gs, tl, rfl, R, k⟩ := h
    refine ⟨_, (pss_cons (ps_if (pt_cmpR op_ne (pe_ix ix_tup (pe_fld (pv 0) rfl) pe_int (fun _ _ => rfl)) pe_str (nomark _)) (pss_one (ps_ret pe_non)) pss_nil) (pss_one (ps_ret (pe_op op_sub (pe_callB call_len_seq (by rfl) T.len (by decide +kernel) (pa_cons (pe_fld (pv 0) rfl) pa_nil)) (pe_ix ix_tup (pe_fld (pv 0) rfl) pe_int (fun _ _ => rfl)))))), ?_⟩
    refine rdNe T R rfl ?_
    cases tl with
    | fin => exact iteTb (congrArg not wER) k
    | times b => exact iteTb (congrArg not wTR) k
    | rep m =>
      refine iteFb (congrArg not wRR) ?_
      refine rdG T R rfl ⟨g, _, rfl, .inl (SqL.of R.hg), rdN T R rfl ⟨_, _, rfl, rfl, ?_⟩⟩
      have e : ((((gs.map V.int).length : Nat) : Int) - (m : Int)) = ((gs.length - m : Nat) : Int) := by
        have := R.okT.2
        rw [List.length_map]
        omega
      have k' : Q (.int ((gs.length - m : Nat) : Int)) H := k
      rw [← e] at k'
      exact k'
theorem ok_fr {f C : Addr} {fd : FuncData} (F : Fun K "first_repeating" "Rule.first_repeating" s_Rule_first_repeating f fd) (T : Txt K mg C) : FnOk P w K mg base CX0 1 f fd ["self"] (spFR C) := by
  refine F.ok scSelf_fr (fun vs H Q E h => ?_) (fun cdv A outer s H vs Q E hr h => ?_)
  · obtain ⟨p, g, t, o, gs, tl, rfl, _⟩ := h
    rfl
  · obtain ⟨p, g, t, o, gs, m, rfl, R, k⟩ := h
    refine ⟨_, (pss_cons (ps_if (pt_cmpR op_ne (pe_ix ix_tup (pe_fld (pv 0) rfl) pe_int (fun _ _ => rfl)) pe_str (nomark _)) (pss_one (ps_ret pe_non)) pss_nil) (pss_one (ps_ret (pe_op op_sub (pe_callB call_len_seq (by rfl) T.len (by decide +kernel) (pa_cons (pe_fld (pv 0) rfl) pa_nil)) (pe_ix ix_tup (pe_fld (pv 0) rfl) pe_int (fun _ _ => rfl)))))), ?_⟩
    refine rdNe T R rfl (iteFb (congrArg not wRR) ?_)
    refine rdG T R rfl ⟨g, _, rfl, .inl (SqL.of R.hg), rdN T R rfl ⟨_, _, rfl, rfl, ?_⟩⟩
    have e : ((((gs.map V.int).length : Nat) : Int) - (m : Int)) = ((gs.length - m : Nat) : Int) := by
      have := R.okT.2
      rw [List.length_map]
      omega
    rw [← e] at k
    exact k
end
end RS
namespace RS
open PySem L2
/-! ### the law's own source of numbers -/
/-- all but what stands at a is as it was -/
def Kx (a : Addr) (H H' : Hp) : Prop := ∀ c u, c ≠ a → H c = some u → H' c = some u
theorem Kx.refl (a : Addr) (H : Hp) : Kx a H H := fun _ _ _ h => h
theorem Kx.trans {a : Addr} {H H1 H2 : Hp} (x : Kx a H H1) (y : Kx a H1 H2) : Kx a H H2 := fun c u n h => y c u n (x c u n h)
theorem Kx.of {a : Addr} {H H' : Hp} (x : Same H H') : Kx a H H' := fun c u _ h => x c u h
theorem Kx.upd {a : Addr} {H : Hp} {o : HO} : Kx a H (upd H a o) := fun c u n h => by
  rw [upd_ne n]
  exact h
theorem Kx.free {a : Addr} {H H' : Hp} (x : Kx a H H') {p : Addr} (n : p ≠ a) (h : H' p = none) : H p = none := by
  cases q : H p with
  | none => rfl
  | some o =>
    rw [x p o n q] at h
    cases h
structure Src (H : Hp) (a : Addr) (b : Nat) : Prop where
  ex : ∃ s0 s1 s2 : Int, H a = some (.lst [.int s0, .int s1, .int s2]) ∧ 0 ≤ s0 ∧ 0 ≤ s1 ∧ s1 < 2147483647 ∧ 0 ≤ s2 ∧ s2 ≤ b
theorem Src.mono {H H' : Hp} {a : Addr} {b : Nat} (h : Src H a b) (e : Same H H') : Src H' a b := by
  obtain ⟨s0, s1, s2, h1, h2⟩ := h.ex
  exact ⟨s0, s1, s2, e _ _ h1, h2⟩
theorem Src.le {H : Hp} {a : Addr} {b c : Nat} (h : Src H a b) (e : b ≤ c) : Src H a c := by
  obtain ⟨s0, s1, s2, h1, h2, h3, h4, h5, h6⟩ := h.ex
  exact ⟨s0, s1, s2, h1, h2, h3, h4, h5, by omega⟩
theorem Src.new {H : Hp} {a : Addr} {b : Nat} (h : Src H a b) {p : Addr} (hp : H p = none) : a ≠ p := by
  obtain ⟨s0, s1, s2, h1, _⟩ := h.ex
  exact ne_of_none h1 hp
section
variable {P : Program} {w : World} {K : PySem.W.Frag} {mg : Str → Option Value} {base : Heap}
def spSrcOf : Sp := fun vs H Q _ => ∃ c : Int, vs = [.int c] ∧ ∀ a H', H a = none → Same H H' → Src H' a 0 → Q (.ref a) H'
theorem scSrcOf : FnScope ["_law_cell"] ["_law_cell"] (defScope s_law_source_of) := ⟨rfl, rfl, rfl, by decide +kernel, rfl, by decide +kernel, by decide +kernel⟩
theorem ok_srcOf {f C : Addr} {fd : FuncData} (F : Fun K "_law_source_of" "_law_source_of" s_law_source_of f fd) (T : Txt K mg C) : FnOk P w K mg base CX0 1 f fd ["_law_cell"] spSrcOf := by
  refine F.ok scSrcOf (fun vs H Q E h => ?_) (fun cdv A outer s H vs Q E hr h => ?_)
  · obtain ⟨c, rfl, _⟩ := h
    rfl
  · obtain ⟨c, rfl, k⟩ := h
    refine ⟨_, (pss_one (ps_ret (pe_lst (pa_cons (pe_op op_mul (pv 0) (pe_callTy call_int1 (by rfl) T.int (by decide +kernel) (pa_cons (pe_cmpR op_ge (pv 0) (pe_op op_pow pe_int pe_int) (nomark _)) pa_nil))) (pa_cons (pe_op op_mod (pe_callTy call_int1 (by rfl) T.int (by decide +kernel) (pa_cons (pv 0) pa_nil)) pe_int) (pa_cons pe_int pa_nil)))))), ?_⟩
    refine ⟨_, rfl, _, rfl, _, _, rfl, rfl, ⟨by decide, by decide, by decide⟩, _, _, rfl, rfl, .inr ⟨_, rfl, ?_⟩⟩
    refine ⟨_, _, rfl, rfl, .inr ?_, _, rfl, .inl ⟨_, rfl, _, _, rfl, rfl, (by show (0 : Int) < 2147483647; decide), (by show 3 ≤ sizeLine; decide), fun a ha => ?_⟩⟩
    · by_cases hc : (10 : Int) ^ (18 : Int).toNat ≤ c
      · rw [decide_eq_true hc]; decide
      · rw [decide_eq_false hc]; decide
    · refine k a _ ha (same_new ha) ⟨_, _, _, upd_same, ?_, Int.emod_nonneg _ (by decide), Int.emod_lt_of_pos _ (by decide), by decide, by decide⟩
      by_cases hc : (10 : Int) ^ (18 : Int).toNat ≤ c
      · have e : (10 : Int) ^ (18 : Int).toNat = 1000000000000000000 := by decide
        rw [decide_eq_true hc]
        show 0 ≤ c * 1
        omega
      · rw [decide_eq_false hc]
        show 0 ≤ c * 0
        omega
def spNext : Sp := fun vs H Q _ => ∃ (a : Addr) (m : Int) (b : Nat), vs = [.ref a, .int m] ∧ Src H a b ∧ b ≤ 100000 ∧ 1 ≤ m ∧ m < 2 ^ 200 ∧ ∀ r H', 0 ≤ r → r < m → Kx a H H' → Src H' a (b + 1) → Q (.int r) H'
theorem scNext : FnScope ["_law_source", "_law_many", "_law_found", "_law_prime", "_law_figure"] ["_law_source", "_law_many"] (defScope s_law_next) := ⟨rfl, rfl, rfl, by decide +kernel, rfl, by decide +kernel, by decide +kernel⟩
theorem prime_at {s : Int} (h : 0 ≤ s) : ∃ pr : Int, atI [V.int 2147483647, V.int 2147483629, V.int 2147483587, V.int 2147483579, V.int 2147483563, V.int 2147483549, V.int 2147483543] (s % 7) = some (.int pr) ∧ 1 ≤ pr ∧ pr ≤ 2147483647 := by
  have h1 : s % 7 = 0 ∨ s % 7 = 1 ∨ s % 7 = 2 ∨ s % 7 = 3 ∨ s % 7 = 4 ∨ s % 7 = 5 ∨ s % 7 = 6 := by omega
  rcases h1 with h1 | h1 | h1 | h1 | h1 | h1 | h1 <;> rw [h1] <;> exact ⟨_, rfl, by decide, by decide⟩
theorem ok_next {f C : Addr} {fd : FuncData} (F : Fun K "_law_next" "_law_next" s_law_next f fd) (T : Txt K mg C) : FnOk P w K mg base CX0 1 f fd ["_law_source", "_law_many"] spNext := by
  refine F.ok scNext (fun vs H Q E h => ?_) (fun cdv A outer s H vs Q E hr h => ?_)
  · obtain ⟨a, m, b, rfl, _⟩ := h
    rfl
  · obtain ⟨a, m, b, rfl, S, hb, hm1, hm2, k⟩ := h
    obtain ⟨s0, s1, s2, ha, h0, h1, h1', h2, h2'⟩ := S.ex
    refine ⟨_, (pss_cons (ps_if (pt_cmpR op_gt (pe_ix ix_list (pv 0) pe_int (fun _ _ => rfl)) pe_int (nomark _)) (pss_cons (ps_set (i := 2) scNext.nd rfl (Or.inl rfl) (pe_op op_mod (pe_callTy call_int1 (by rfl) T.int (by decide +kernel) (pa_cons (pe_ix ix_list (pv 0) pe_int (fun _ _ => rfl)) pa_nil)) (pv 1))) (pss_cons (ps_asg (pe_op op_fdivW (pe_ix ix_list (pv 0) pe_int (fun _ _ => rfl)) (pv 1)) (pg_sub (pv 0) pe_int set_list)) (pss_one (ps_ret (pv 2))))) pss_nil) (pss_cons (ps_asg (pe_op op_add (pe_ix ix_list (pv 0) pe_int (fun _ _ => rfl)) pe_int) (pg_sub (pv 0) pe_int set_list)) (pss_cons (ps_set (i := 3) scNext.nd rfl (Or.inl rfl) (pe_ix ix_list (pe_lst (pa_cons pe_int (pa_cons pe_int (pa_cons pe_int (pa_cons pe_int (pa_cons pe_int (pa_cons pe_int (pa_cons pe_int pa_nil)))))))) (pe_op op_mod (pe_callTy call_int1 (by rfl) T.int (by decide +kernel) (pa_cons (pe_ix ix_list (pv 0) pe_int (fun _ _ => rfl)) pa_nil)) pe_int) (fun _ _ => rfl))) (pss_cons (ps_set (i := 4) scNext.nd rfl (Or.inl rfl) (pe_op op_mod (pe_callTy call_int1 (by rfl) T.int (by decide +kernel) (pa_cons (pe_op op_pow (pe_op op_add (pe_op op_add (pe_ix ix_list (pv 0) pe_int (fun _ _ => rfl)) (pe_op op_mul pe_int (pe_ix ix_list (pv 0) pe_int (fun _ _ => rfl)))) pe_int) pe_int) pa_nil)) (pv 3))) (pss_cons (ps_set (i := 4) scNext.nd rfl (Or.inl rfl) (pe_op op_mod (pe_callTy call_int1 (by rfl) T.int (by decide +kernel) (pa_cons (pe_op op_mul (pe_op op_add (pv 4) (pe_ix ix_list (pv 0) pe_int (fun _ _ => rfl))) (pe_op op_add (pe_op op_fdiv (pv 4) pe_int) pe_int)) pa_nil)) (pv 3))) (pss_one (ps_ret (pe_op op_mod (pe_callTy call_int1 (by rfl) T.int (by decide +kernel) (pa_cons (pe_op op_fdiv (pv 4) pe_int) pa_nil)) (pv 1))))))))), ?_⟩
    refine ⟨_, rfl, a, _, _, _, rfl, rfl, SqL.of ha, atI_nat (j := 0) rfl, _, _, rfl, rfl, _, rfl, ?_⟩
    by_cases hz : 0 < s0
    · refine iteTb (decide_eq_true hz) ?_
      refine ⟨_, rfl, a, _, _, _, rfl, rfl, SqL.of ha, atI_nat (j := 0) rfl, .inl ⟨_, rfl, _, rfl, _, _, rfl, rfl, by omega, ?_⟩⟩
      refine ⟨_, rfl, a, _, _, _, rfl, rfl, SqL.of ha, atI_nat (j := 0) rfl, _, rfl, _, _, rfl, rfl, wide_div (by omega) (b := 200) (by omega) (by decide) (by decide), _, rfl, a, _, _, 0, rfl, rfl, ha, rfl, ?_⟩
      refine ⟨_, rfl, k _ _ (Int.emod_nonneg _ (by omega)) (Int.emod_lt_of_pos _ (by omega)) Kx.upd ⟨s0 / m, s1, s2, upd_same, Int.ediv_nonneg h0 (by omega), h1, h1', h2, by omega⟩⟩
    · refine iteFb (decide_eq_false hz) ?_
      refine ⟨_, rfl, a, _, _, _, rfl, rfl, SqL.of ha, atI_nat (j := 2) rfl, _, _, rfl, rfl, _, rfl, a, _, _, 2, rfl, rfl, ha, rfl, ?_⟩
      refine ⟨by show 7 ≤ sizeLine; decide, fun l hl => ?_⟩
      have hal : (upd (upd H a (.lst [.int s0, .int s1, .int (s2 + 1)])) l (.lst [.int 2147483647, .int 2147483629, .int 2147483587, .int 2147483579, .int 2147483563, .int 2147483549, .int 2147483543])) a = some (.lst [.int s0, .int s1, .int (s2 + 1)]) := by
        rw [upd_ne (ne_of_none upd_same hl)]
        exact upd_same
      obtain ⟨pr, hpr, hp1, hp2⟩ := prime_at (s := s2 + 1) (by omega)
      refine ⟨_, rfl, a, _, _, _, rfl, rfl, SqL.of hal, atI_nat (j := 2) rfl, .inl ⟨_, rfl, _, _, rfl, rfl, (by show (0 : Int) < 7; decide), l, _, _, _, rfl, rfl, SqL.of upd_same, hpr, ?_⟩⟩
      refine ⟨_, rfl, a, _, _, _, rfl, rfl, SqL.of hal, atI_nat (j := 1) rfl, _, rfl, a, _, _, _, rfl, rfl, SqL.of hal, atI_nat (j := 2) rfl, _, _, rfl, rfl, .inl ⟨by decide, by decide⟩, _, _, rfl, rfl, _, _, rfl, rfl, _, _, rfl, rfl, ⟨by decide, by decide, by omega⟩, .inl ⟨_, rfl, _, rfl, _, _, rfl, rfl, by omega, ?_⟩⟩
      generalize hf : (s1 + 7919 * (s2 + 1) + 1) ^ (5 : Int).toNat % pr = fg
      have f0 : 0 ≤ fg := by rw [← hf]; exact Int.emod_nonneg _ (by omega)
      have f1 : fg < pr := by rw [← hf]; exact Int.emod_lt_of_pos _ (by omega)
      refine ⟨_, rfl, _, rfl, a, _, _, _, rfl, rfl, SqL.of hal, atI_nat (j := 2) rfl, _, _, rfl, rfl, _, rfl, _, _, rfl, rfl, ⟨by decide, by decide⟩, _, _, rfl, rfl, _, _, rfl, rfl, .inl ⟨by omega, by omega⟩, .inl ⟨_, rfl, _, rfl, _, _, rfl, rfl, by omega, ?_⟩⟩
      refine ⟨_, rfl, _, _, rfl, rfl, ⟨by decide, by decide⟩, .inl ⟨_, rfl, _, rfl, _, _, rfl, rfl, by omega, ?_⟩⟩
      refine k _ _ (Int.emod_nonneg _ (by omega)) (Int.emod_lt_of_pos _ (by omega)) (fun c u n e => ?_) ⟨s0, s1, s2 + 1, hal, h0, h1, h1', by omega, by omega⟩
      have e2 : (upd H a (.lst [.int s0, .int s1, .int (s2 + 1)])) c = some u := by
        rw [upd_ne n]
        exact e
      rw [upd_ne (ne_of_none e2 hl)]
      exact e2
def spOne : Sp := fun vs H Q _ => ∃ (a q : Addr) (xs : List V) (b : Nat), vs = [.ref a, .ref q] ∧ Src H a b ∧ b ≤ 100000 ∧ q ≠ a ∧ H q = some (.lst xs) ∧ 0 < xs.length ∧ xs.length < 1000 ∧ ∀ x H', x ∈ xs → Kx a H H' → Src H' a (b + 1) → Q x H'
theorem scOne : FnScope ["_law_source", "_law_options"] ["_law_source", "_law_options"] (defScope s_law_one) := ⟨rfl, rfl, rfl, by decide +kernel, rfl, by decide +kernel, by decide +kernel⟩
theorem ok_one {f C fN : Addr} {fd fdN : FuncData} (F : Fun K "_law_one" "_law_one" s_law_one f fd) (T : Txt K mg C) (FN : Fun K "_law_next" "_law_next" s_law_next fN fdN) (bN : Binds K fdN ["_law_source", "_law_many"] []) (mN : mg "_law_next" = some (.ref fN)) :
    FnOk P w K mg base CX0 2 f fd ["_law_source", "_law_options"] spOne := by
  have GN : FnOk P w K mg base CX0 1 fN fdN ["_law_source", "_law_many"] spNext := ok_next FN T
  refine F.ok scOne (fun vs H Q E h => ?_) (fun cdv A outer s H vs Q E hr h => ?_)
  · obtain ⟨a, q, xs, b, rfl, _⟩ := h
    rfl
  · obtain ⟨a, q, xs, b, rfl, S, hb, hne, hq, hx0, hx1, k⟩ := h
    refine ⟨_, (pss_one (ps_ret (pe_ix ix_list (pv 1) (pe_call GN hr rfl mN FN.kp bN .nil pass0 (pa_cons (pv 0) (pa_cons (pe_callB call_len_seq (by rfl) T.len (by decide +kernel) (pa_cons (pv 1) pa_nil)) pa_nil))) (fun _ _ => rfl)))), ?_⟩
    refine ⟨_, rfl, _, rfl, _, rfl, q, _, rfl, .inl (SqL.of hq), a, (xs.length : Int), b, rfl, S, hb, by omega, by omega, fun r H' r0 r1 kx S' => ?_⟩
    obtain ⟨j, rfl⟩ : ∃ j : Nat, r = (j : Int) := ⟨r.toNat, by omega⟩
    have hj : j < xs.length := by omega
    exact ⟨q, _, _, _, rfl, rfl, SqL.of (kx _ _ hne hq), atI_nat (List.getElem?_eq_getElem hj), k _ _ (List.getElem_mem hj) kx S'⟩
def spCell (K : PySem.W.Frag) : Sp := fun vs H Q _ => ∃ (a : Addr) (ns : List Int), vs = [.ref a, .int 0] ∧ SqL K H a (ns.map V.int) ∧ Q (.int (ns.getD 0 0)) H
theorem scCell : FnScope ["_law_script", "_law_k"] ["_law_script", "_law_k"] (defScope s_law_cell_at) := ⟨rfl, rfl, rfl, by decide +kernel, rfl, by decide +kernel, by decide +kernel⟩
theorem ok_cell {f C : Addr} {fd : FuncData} (F : Fun K "_law_cell_at" "_law_cell_at" s_law_cell_at f fd) (T : Txt K mg C) : FnOk P w K mg base CX0 1 f fd ["_law_script", "_law_k"] (spCell K) := by
  refine F.ok scCell (fun vs H Q E h => ?_) (fun cdv A outer s H vs Q E hr h => ?_)
  · obtain ⟨a, ns, rfl, _⟩ := h
    rfl
  · obtain ⟨a, ns, rfl, hs, k⟩ := h
    refine ⟨_, (pss_cons (ps_if (pt_cmpR op_lt (pv 1) (pe_callB call_len_seq (by rfl) T.len (by decide +kernel) (pa_cons (pv 0) pa_nil)) (nomark _)) (pss_one (ps_ret (pe_ix ix_list (pv 0) (pv 1) (fun _ _ => rfl)))) pss_nil) (pss_one (ps_ret pe_int))), ?_⟩
    refine ⟨_, rfl, _, rfl, a, _, rfl, .inl hs, _, _, rfl, rfl, _, rfl, ?_⟩
    rw [List.length_map]
    cases ns with
    | nil => exact iteFb (by decide) k
    | cons n r =>
      refine iteTb (decide_eq_true (by rw [List.length_cons]; omega)) ?_
      exact ⟨_, rfl, _, rfl, a, _, _, _, rfl, rfl, hs, atI_nat (j := 0) rfl, k⟩
end
end RS
namespace RS
open PySem L2
/-! ### the mathematics of offsets and gaps -/
def geo (b : Int) : Nat → Int
  | 0 => 0
  | k + 1 => geo b k + b ^ k
theorem geo_eq (b : Int) : ∀ k, b ^ k - 1 = (b - 1) * geo b k
  | 0 => by simp [geo]
  | k + 1 => by
    rw [geo, Int.mul_add, ← geo_eq b k, Int.pow_succ, Int.sub_mul, Int.one_mul, Int.mul_comm b (b ^ k)]
    omega
theorem geo_div {b : Int} (h : 2 ≤ b) (x : Int) (k : Nat) : x * (b ^ k - 1) / (b - 1) = x * geo b k := by
  rw [geo_eq, ← Int.mul_assoc, Int.mul_comm x (b - 1), Int.mul_assoc]
  exact Int.mul_ediv_cancel_left _ (by omega)
theorem off_low {gs : List Int} {tl : Tl} {n : Nat} (h : n ≤ gs.length) : off gs tl n = pre gs n := if_pos h
theorem off_times {gs : List Int} {b : Int} (h2 : 2 ≤ b) {n : Nat} (h : gs.length ≤ n) : off gs (.times b) n = pre gs gs.length + lastG gs * b * geo b (n - gs.length) := by
  by_cases e : n = gs.length
  · subst e
    rw [off_low (Nat.le_refl _), Nat.sub_self]
    simp [geo]
  · have e1 : off gs (.times b) n = pre gs gs.length + lastG gs * b * (b ^ (n - gs.length) - 1) / (b - 1) := if_neg (by omega)
    rw [e1, geo_div h2]
theorem off_rep {gs : List Int} {m : Nat} (h1 : 1 ≤ m) (h2 : m ≤ gs.length) {n : Nat} (h : gs.length ≤ n) : off gs (.rep m) n = pre gs (gs.length - m + (n - gs.length) % m) + (((n - gs.length) / m : Nat) + 1) * per gs m := by
  by_cases e : n = gs.length
  · subst e
    rw [off_low (Nat.le_refl _), Nat.sub_self, Nat.zero_mod, Nat.zero_div]
    unfold per
    simp
    omega
  · exact if_neg (by omega)
theorem gap_low {gs : List Int} {tl : Tl} {n : Nat} (h : n < gs.length) : gapf gs tl n = gs.getD n 0 := if_pos h
theorem gap_times {gs : List Int} {b : Int} {n : Nat} (h : gs.length ≤ n) : gapf gs (.times b) n = lastG gs * b ^ (n - gs.length + 1) := if_neg (by omega)
theorem gap_rep {gs : List Int} {m n : Nat} (h : gs.length ≤ n) : gapf gs (.rep m) n = gs.getD (gs.length - m + (n - gs.length) % m) 0 := if_neg (by omega)
theorem pre_succD {gs : List Int} {k : Nat} (h : k < gs.length) : pre gs (k + 1) = pre gs k + gs.getD k 0 := pre_succ gs (getD_get h)
/-- the next attempt lies one gap later -/
theorem off_succ {gs : List Int} {tl : Tl} (ok : TlOk gs.length tl) {n : Nat} (hf : tl = .fin → n < gs.length) : off gs tl (n + 1) = off gs tl n + gapf gs tl n := by
  by_cases h : n < gs.length
  · rw [off_low (by omega), off_low (by omega), gap_low h, pre_succD h]
  · cases tl with
    | fin => exact absurd (hf rfl) h
    | times b =>
      have h2 := ok.2.1
      rw [off_times h2 (by omega), off_times h2 (by omega), gap_times (by omega), show n + 1 - gs.length = (n - gs.length) + 1 by omega, geo, Int.mul_add, Int.pow_succ, Int.mul_assoc, Int.mul_assoc, Int.mul_comm (b ^ (n - gs.length)) b]
      omega
    | rep m =>
      have h1 : 1 ≤ m := ok.1
      have h2 : m ≤ gs.length := ok.2
      rw [off_rep h1 h2 (by omega), off_rep h1 h2 (by omega), gap_rep (by omega)]
      generalize hd : n - gs.length = d
      rw [show n + 1 - gs.length = d + 1 by omega]
      have hr : d % m < m := Nat.mod_lt _ (by omega)
      have e0 : m * (d / m) + d % m = d := Nat.div_add_mod d m
      by_cases hl : d % m + 1 < m
      · have e1 : (d + 1) % m = d % m + 1 := by
          rw [← e0, show m * (d / m) + d % m + 1 = (d % m + 1) + m * (d / m) by omega, Nat.add_mul_mod_self_left, Nat.mod_eq_of_lt hl, Nat.add_comm (m * (d / m)), Nat.add_mul_mod_self_left, Nat.mod_mod]
        have e2 : (d + 1) / m = d / m := by
          have h3 := Nat.div_add_mod (d + 1) m
          rw [e1] at h3
          have h4 : m * ((d + 1) / m) = m * (d / m) := by omega
          exact Nat.eq_of_mul_eq_mul_left (by omega) h4
        rw [e1, e2, show gs.length - m + (d % m + 1) = (gs.length - m + d % m) + 1 by omega, pre_succD (by omega)]
        omega
      · have e1 : d + 1 = m * (d / m + 1) := by
          rw [Nat.mul_add, Nat.mul_one]
          omega
        rw [e1, Nat.mul_mod_right, Nat.mul_div_cancel_left _ (by omega), show d % m = m - 1 by omega]
        have e3 : pre gs gs.length = pre gs (gs.length - m + (m - 1)) + gs.getD (gs.length - m + (m - 1)) 0 := by
          rw [← pre_succD (by omega), show gs.length - m + (m - 1) + 1 = gs.length by omega]
        have e4 : per gs m = pre gs gs.length - pre gs (gs.length - m) := rfl
        have e5 : ((d / m + 1 : Nat) + 1 : Int) * per gs m = ((d / m : Nat) + 1 : Int) * per gs m + per gs m := by
          rw [Int.natCast_add, Int.add_mul, Int.natCast_one, Int.one_mul]
        rw [e5, Nat.add_zero]
        omega
theorem gap_grow {gs : List Int} {b : Int} (h0 : 0 < gs.length) {n : Nat} (h : gs.length ≤ n) : gapf gs (.times b) n = gapf gs (.times b) (n - 1) * b := by
  rw [gap_times h]
  by_cases e : n = gs.length
  · subst e
    rw [gap_low (by omega), Nat.sub_self]
    show lastG gs * b ^ 1 = lastG gs * b
    rw [Int.pow_succ, Int.pow_zero, Int.one_mul]
  · rw [gap_times (by omega), show n - gs.length + 1 = (n - 1 - gs.length + 1) + 1 by omega, Int.pow_succ, Int.mul_assoc]
theorem off_later {gs : List Int} {m : Nat} (h1 : 1 ≤ m) (h2 : m ≤ gs.length) (a t : Nat) : off gs (.rep m) (a + gs.length + m * t) = off gs (.rep m) (a + gs.length) + (t : Int) * per gs m := by
  rw [off_rep h1 h2 (by omega), off_rep h1 h2 (by omega), show a + gs.length + m * t - gs.length = a + m * t by omega, show a + gs.length - gs.length = a by omega, Nat.add_mul_mod_self_left, Nat.add_mul_div_left _ _ (by omega), Int.natCast_add]
  rw [Int.add_mul, Int.add_mul, Int.add_mul]
  omega
theorem sum_take_drop (gs : List Int) (k : Nat) : (gs.take k).sum + (gs.drop k).sum = gs.sum := by
  rw [← List.sum_append, List.take_append_drop]
theorem per_sum {gs : List Int} (m : Nat) : (gs.drop (gs.length - m)).sum = per gs m := by
  have h := sum_take_drop gs (gs.length - m)
  have e : pre gs gs.length = gs.sum := by unfold pre; rw [List.take_length]
  unfold per
  rw [e]
  unfold pre
  omega
end RS
namespace RS
open PySem L2
section
variable {P : Program} {w : World} {K : PySem.W.Frag} {mg : Str → Option Value} {base : Heap}
/-! ### the law's rule: gaps and a tail -/
theorem ints_dp {K : PySem.W.Frag} {H : Hp} : ∀ ns : List Int, DpAll K H (ns.map V.int) (ns.map PyData.int)
  | [] => .nil
  | n :: r => .cons (.int n) (ints_dp r)
theorem list_dp {K : PySem.W.Frag} {H : Hp} {a : Addr} {ns : List Int} (h : SqL K H a (ns.map V.int)) : Dp K H (.ref a) (.list (ns.map PyData.int)) := .lst h (ints_dp ns)
theorem list_eqv (ns ms : List Int) : PyData.eqv (.list (ns.map PyData.int)) (.list (ms.map PyData.int)) = decide (ns = ms) := PySem.W.ked_eqvAll ns ms
def spSpec : Sp := fun vs H Q _ => ∃ (a : Addr) (b : Nat), vs = [.ref a] ∧ Src H a b ∧ b ≤ 50000 ∧
  ∀ (u g t : Addr) (gs : List Int) (tl : Tl) (H' : Hp), H g = none → H' u = some (.tup [.ref g, .ref t]) → H' g = some (.lst (gs.map V.int)) → H' t = some (.tup tl.vs) → GapsOk gs → TlOk gs.length tl → Kx a H H' → Src H' a (b + 40) → Q (.ref u) H'
theorem scSpec : FnScope ["_law_source", "_law_wide", "_law_count", "_law_gaps", "_law_kind", "_law_k"] ["_law_source"] (defScope s_law_spec) := ⟨rfl, rfl, rfl, by decide +kernel, rfl, by decide +kernel, by decide +kernel⟩
theorem ok_spec {f C fN fO : Addr} {fd fdN fdO : FuncData} (F : Fun K "_law_spec" "_law_spec" s_law_spec f fd) (T : Txt K mg C) (FN : Fun K "_law_next" "_law_next" s_law_next fN fdN) (bN : Binds K fdN ["_law_source", "_law_many"] []) (mN : mg "_law_next" = some (.ref fN))
    (FO : Fun K "_law_one" "_law_one" s_law_one fO fdO) (bO : Binds K fdO ["_law_source", "_law_options"] []) (mO : mg "_law_one" = some (.ref fO)) : FnOk P w K mg base CX0 3 f fd ["_law_source"] spSpec := by
  have GN : FnOk P w K mg base CX0 1 fN fdN ["_law_source", "_law_many"] spNext := ok_next FN T
  have GO : FnOk P w K mg base CX0 2 fO fdO ["_law_source", "_law_options"] spOne := ok_one FO T FN bN mN
  refine F.ok scSpec (fun vs H Q E h => ?_) (fun cdv A outer s H vs Q E hr h => ?_)
  · obtain ⟨a, b, rfl, _⟩ := h
    rfl
  · obtain ⟨a, b, rfl, S, hb, k⟩ := h
    have hr1 := hr.mono (show 1 ≤ 2 by decide)
    refine ⟨_, (pss_cons (ps_set (i := 1) scSpec.nd rfl (Or.inr rfl) (pe_call GO hr rfl mO FO.kp bO .nil pass0 (pa_cons (pv 0) (pa_cons (pe_lst (pa_cons pe_int (pa_cons pe_int (pa_cons pe_int (pa_cons (pe_op op_pow pe_int pe_int) (pa_cons (pe_op op_pow pe_int pe_int) pa_nil)))))) pa_nil)))) (pss_cons (ps_set (i := 2) scSpec.nd rfl (Or.inl rfl) (pe_call GN hr1 rfl mN FN.kp bN .nil pass0 (pa_cons (pv 0) (pa_cons (pe_call GO hr rfl mO FO.kp bO .nil pass0 (pa_cons (pv 0) (pa_cons (pe_lst (pa_cons pe_int (pa_cons pe_int (pa_cons pe_int pa_nil)))) pa_nil))) pa_nil)))) (pss_cons (ps_setLc (i := 3) (own := [("_law_k", 5)]) (g := gName 5) (tt := tYes) (by rfl) scSpec.nd rfl rfl (sw_true rfl rfl rfl (by decide +kernel)) (pi_range1 rfl T.range (pa_cons (pv 2) pa_nil)) (blkOk_by (own := [("_law_k", 5)]) (N := ["_law_source", "_law_wide", "_law_count", "_law_gaps", "_law_kind", "_law_k"]) (sc := defScope s_law_spec) (by decide +kernel))
        (fun _ _ _ _ _ => (pg_name (i := 5) scSpec.nd rfl (Or.inl rfl))) (fun _ _ _ _ _ => pts_nil) (fun _ _ _ _ _ => (pe_op op_add pe_int (pe_call GN hr1 rfl mN FN.kp bN .nil pass0 (pa_cons (pv 0) (pa_cons (pv 1) pa_nil)))))) (pss_cons (ps_set (i := 4) scSpec.nd rfl (Or.inl rfl) (pe_call GN hr1 rfl mN FN.kp bN .nil pass0 (pa_cons (pv 0) (pa_cons pe_int pa_nil)))) (pss_cons (ps_if (PW.pt (pw_or (pt_cmpR (op_eqD hr.units) (pv 3) (pe_lst pa_nil) (nomark _)) (pw_or1 (pt_cmpR op_eq (pv 4) pe_int (nomark _))))) (pss_one (ps_ret (pe_tup (pa_cons (pv 3) (pa_cons (pe_tup (pa_cons pe_str pa_nil)) pa_nil))))) pss_nil) (pss_cons (ps_if (pt_cmpR op_eq (pv 4) pe_int (nomark _)) (pss_one (ps_ret (pe_tup (pa_cons (pv 3) (pa_cons (pe_tup (pa_cons pe_str (pa_cons (pe_call GO hr rfl mO FO.kp bO .nil pass0 (pa_cons (pv 0) (pa_cons (pe_lst (pa_cons pe_int (pa_cons pe_int (pa_cons pe_int (pa_cons pe_int (pa_cons pe_int pa_nil)))))) pa_nil))) pa_nil))) pa_nil))))) pss_nil) (pss_one (ps_ret (pe_tup (pa_cons (pv 3) (pa_cons (pe_tup (pa_cons pe_str (pa_cons (pe_op op_add pe_int (pe_call GN hr1 rfl mN FN.kp bN .nil pass0 (pa_cons (pv 0) (pa_cons (pe_callB call_len_seq (by rfl) T.len (by decide +kernel) (pa_cons (pv 3) pa_nil)) pa_nil)))) pa_nil))) pa_nil))))))))))), ?_⟩
    -- wide
    refine ⟨_, rfl, _, _, rfl, rfl, ⟨by decide, by decide, by decide⟩, _, _, rfl, rfl, ⟨by decide, by decide, by decide⟩, (by show 5 ≤ sizeLine; decide), fun q1 hq1 => ?_⟩
    have S1 : Same H (upd H q1 (.lst [.int 3, .int 9, .int 9, .int ((10 : Int) ^ (6 : Int).toNat), .int ((10 : Int) ^ (12 : Int).toNat)])) := same_new hq1
    refine ⟨a, q1, _, b, rfl, S.mono S1, by omega, (S.new hq1).symm, upd_same, by show 0 < 5; decide, by show 5 < 1000; decide, fun x H2 hx kx2 R2 => ?_⟩
    obtain ⟨wd, rfl, wd1, wd2⟩ : ∃ wd : Int, x = .int wd ∧ 1 ≤ wd ∧ wd ≤ 1000000000000 := by
      simp only [List.mem_cons, List.not_mem_nil, or_false] at hx
      rcases hx with rfl | rfl | rfl | rfl | rfl <;> exact ⟨_, rfl, by decide, by decide⟩
    have kx2 : Kx a H H2 := (Kx.of S1).trans kx2
    -- count
    refine ⟨_, rfl, _, rfl, (by show 3 ≤ sizeLine; decide), fun q2 hq2 => ?_⟩
    refine ⟨a, q2, _, b + 1, rfl, R2.mono (same_new hq2), by omega, (R2.new hq2).symm, upd_same, by show 0 < 3; decide, by show 3 < 1000; decide, fun x H3 hx kx3 R3 => ?_⟩
    obtain ⟨ct, rfl, ct1, ct2⟩ : ∃ ct : Int, x = .int ct ∧ 1 ≤ ct ∧ ct ≤ 21 := by
      simp only [List.mem_cons, List.not_mem_nil, or_false] at hx
      rcases hx with rfl | rfl | rfl <;> exact ⟨_, rfl, by decide, by decide⟩
    have kx3 : Kx a H H3 := kx2.trans ((Kx.of (same_new hq2)).trans kx3)
    refine ⟨a, ct, b + 2, rfl, R3, by omega, ct1, by omega, fun cn H4 cn0 cn1 kx4 R4 => ?_⟩
    have kx4 : Kx a H H4 := kx3.trans kx4
    -- the gaps
    refine ⟨_, rfl, cn, rfl, by omega, by omega, fun D hD => ?_⟩
    have naD : a ≠ D := R4.new hD
    refine lc_range (lo := 0) (n := cn.toNat) (fun i H' => ∃ gs : List Int, gs.length = i ∧ (∀ g ∈ gs, 1 ≤ g ∧ g ≤ 1000000000000) ∧ H' D = some (.lst (gs.map V.int)) ∧ Kx a H4 H' ∧ Src H' a (b + 3 + i)) ⟨[], rfl, fun g hg => (nomatch hg), upd_same, Kx.of (same_new hD), R4.mono (same_new hD)⟩ (fun i H' hi p => ?_) (fun H' p => ?_)
    · obtain ⟨gs, hl, hg, hd, kx, R⟩ := p
      refine ⟨rfl, ?_⟩
      refine yes_t (iteT ?_)
      refine ⟨_, rfl, _, rfl, a, wd, b + 3 + i, rfl, R, by omega, wd1, by omega, fun r H5 r0 r1 kx5 R5 => ⟨_, _, rfl, rfl, gs.map V.int, kx5 D _ naD.symm hd, ?_, gs ++ [1 + r], ?_, ?_, ?_, ?_, ?_⟩⟩
      · rw [List.length_map]
        exact small1000 (by omega)
      · rw [List.length_append, hl]
        rfl
      · intro g hm
        rcases List.mem_append.mp hm with hm | hm
        · exact hg g hm
        · obtain rfl := List.mem_singleton.mp hm
          omega
      · rw [upd_same, List.map_append]
        rfl
      · intro c u n e
        rw [upd_ne (ne_of_none e hD)]
        exact kx5 c u n (kx c u n e)
      · obtain ⟨s0, s1, s2, h1, h2⟩ := R5.ex
        exact ⟨s0, s1, s2, by rw [upd_ne naD]; exact h1, h2⟩
    obtain ⟨gs, hl, hg, hd, kx, R⟩ := p
    have kx5 : Kx a H H' := kx4.trans kx
    have hDH : H D = none := kx4.free naD.symm hD
    have okG : GapsOk gs := ⟨by omega, hg⟩
    -- kind
    refine ⟨_, rfl, a, 4, b + 3 + cn.toNat, rfl, R, by omega, by decide, by decide, fun kd H6 kd0 kd1 kx6 R6 => ?_⟩
    have hd6 := kx6 D _ naD.symm hd
    have kx7 : Kx a H H6 := kx5.trans kx6
    refine ⟨_, rfl, (by show 0 ≤ sizeLine; decide), fun e0 he0 => ?_⟩
    have S7 : Same H6 (upd H6 e0 (.lst [])) := same_new he0
    refine ⟨_, _, list_dp (SqL.of (S7 _ _ hd6)), list_dp (ns := []) (SqL.of upd_same), PySem.W.ke_shaped_ints gs, PySem.W.ke_shaped_ints [], _, rfl, ?_⟩
    rw [list_eqv]
    have kx8 : Kx a H (upd H6 e0 (.lst [])) := kx7.trans (Kx.of S7)
    have hd8 := S7 _ _ hd6
    have R8 := R6.mono S7
    generalize hH8 : upd H6 e0 (.lst []) = H8 at hd8 kx8 R8
    -- the end
    have fin : ∀ D' : Ends, D'.rt = Q → tRet (tTup (tCons (tVar 3) (tCons (tTup (tCons (tC (.str "end")) tNil)) tNil))) D' [some (.ref a), some (.int wd), some (.int cn), some (.ref D), some (.int kd), none] H8 := by
      intro D' hD'
      refine ⟨_, rfl, (by show 1 ≤ sizeLine; decide), fun t ht => ⟨(by show 2 ≤ sizeLine; decide), fun u hu => ?_⟩⟩
      rw [hD']
      refine k u D t gs .fin _ hDH upd_same ?_ ?_ okG True.intro (kx8.trans (Kx.of ((same_new ht).trans (same_new hu)))) (((R8.mono (same_new ht)).mono (same_new hu)).le (by omega))
      · exact same_new hu _ _ (same_new ht _ _ hd8)
      · exact same_new hu _ _ upd_same
    by_cases hge : gs = []
    · refine iteTb (decide_eq_true hge) ?_
      refine iteT ?_
      exact fin _ rfl
    · refine iteFb (decide_eq_false hge) ?_
      have hlen : 0 < gs.length := List.length_pos_iff.mpr hge
      refine ⟨_, rfl, rfl, _, rfl, ?_⟩
      by_cases hk0 : kd = 0
      · refine iteTb (decide_eq_true (by rw [hk0])) ?_
        exact fin _ rfl
      · refine iteFb (decide_eq_false fun e => hk0 (V.int.inj e)) ?_
        refine ⟨_, rfl, rfl, _, rfl, ?_⟩
        by_cases hk1 : kd = 1
        · refine iteTb (decide_eq_true (by rw [hk1])) ?_
          refine ⟨_, rfl, _, rfl, (by show 5 ≤ sizeLine; decide), fun q hq => ?_⟩
          refine ⟨a, q, _, b + 3 + cn.toNat + 1, rfl, R8.mono (same_new hq), by omega, (R8.new hq).symm, upd_same, by show 0 < 5; decide, by show 5 < 1000; decide, fun x H9 hx kx9 R9 => ?_⟩
          obtain ⟨bb, rfl, bb1, bb2⟩ : ∃ bb : Int, x = .int bb ∧ 2 ≤ bb ∧ bb ≤ 1000 := by
            simp only [List.mem_cons, List.not_mem_nil, or_false] at hx
            rcases hx with rfl | rfl | rfl | rfl | rfl <;> exact ⟨_, rfl, by decide, by decide⟩
          have kx10 : Kx a H8 H9 := (Kx.of (same_new hq)).trans kx9
          refine ⟨(by show 2 ≤ sizeLine; decide), fun t ht => ⟨(by show 2 ≤ sizeLine; decide), fun u hu => ?_⟩⟩
          refine k u D t gs (.times bb) _ hDH upd_same ?_ ?_ okG ⟨hlen, bb1, bb2⟩ (kx8.trans (kx10.trans (Kx.of ((same_new ht).trans (same_new hu))))) (((R9.mono (same_new ht)).mono (same_new hu)).le (by omega))
          · exact same_new hu _ _ (same_new ht _ _ (kx10 _ _ naD.symm hd8))
          · exact same_new hu _ _ upd_same
        · refine iteFb (decide_eq_false fun e => hk1 (V.int.inj e)) ?_
          refine ⟨_, rfl, _, rfl, _, rfl, D, _, rfl, .inl (SqL.of hd8), a, (gs.length : Int), b + 3 + cn.toNat + 1, ?_, R8, by omega, by omega, by omega, fun r H9 r0 r1 kx9 R9 => ?_⟩
          · rw [List.length_map]
            rfl
          obtain ⟨j, rfl⟩ : ∃ j : Nat, r = (j : Int) := ⟨r.toNat, by omega⟩
          refine ⟨_, _, rfl, rfl, (by show 2 ≤ sizeLine; decide), fun t ht => ⟨(by show 2 ≤ sizeLine; decide), fun u hu => ?_⟩⟩
          refine k u D t gs (.rep (1 + j)) _ hDH upd_same ?_ ?_ okG ⟨by omega, by omega⟩ (kx8.trans (kx9.trans (Kx.of ((same_new ht).trans (same_new hu))))) (((R9.mono (same_new ht)).mono (same_new hu)).le (by omega))
          · exact same_new hu _ _ (same_new ht _ _ (kx9 _ _ naD.symm hd8))
          · exact same_new hu _ _ upd_same
end
end RS
namespace RS
open PySem L2
/-! ### the text of a whole number -/
def numS (i : Int) : Str := Str.ofString (toString i)
theorem numS_nat (n : Nat) : TL.tl (numS (n : Int)) = TL.numL n := TL.tl_num n
theorem numS_neg (m : Nat) : TL.tl (numS (Int.negSucc m)) = 45 :: TL.numL (m + 1) := by
  have e : numS (Int.negSucc m) = Str.ofString ("-" ++ toString (m + 1)) := rfl
  have e2 : TL.tl (numS ((m + 1 : Nat) : Int)) = List.map Char.toNat (toString (m + 1)).toList := TL.tl_ofString _
  rw [e, TL.tl_ofString, String.toList_append, List.map_append, ← e2, numS_nat]
  rfl
theorem numL_head : ∀ (k n : Nat), n < k → 1 ≤ n → ∃ c r, TL.numL n = c :: r ∧ 49 ≤ c ∧ c ≤ 57
  | 0, _, h, _ => absurd h (Nat.not_lt_zero _)
  | k + 1, n, h, h1 => by
    rcases Nat.lt_or_ge n 10 with z | z
    · exact ⟨48 + n, [], TL.numL_lt z, by omega, by omega⟩
    · obtain ⟨c, r, e, hc⟩ := numL_head k (n / 10) (by omega) (by omega)
      exact ⟨c, r ++ [48 + n % 10], by rw [TL.numL_step z, e]; rfl, hc⟩
theorem numL_any (n : Nat) : ∃ c r, TL.numL n = c :: r ∧ 48 ≤ c ∧ c ≤ 57 := by
  rcases Nat.eq_zero_or_pos n with z | z
  · subst z
    exact ⟨48, [], rfl, by decide, by decide⟩
  · obtain ⟨c, r, e, h⟩ := numL_head (n + 1) n (by omega) z
    exact ⟨c, r, e, by omega, h.2⟩
/-- within the digits that a text may have -/
def Num30 (i : Int) : Prop := -(10 ^ 30) < i ∧ i < 10 ^ 30
theorem numL_30 {n : Nat} (h : n < 10 ^ 30) : 1 ≤ (TL.numL n).length ∧ (TL.numL n).length ≤ 30 :=
  ⟨List.length_pos_iff.mpr (TL.numL_ne n), TL.numL_len (by decide) h⟩
theorem num_cases {i : Int} (h : Num30 i) : (∃ n : Nat, i = (n : Int) ∧ n < 10 ^ 30) ∨ ∃ m : Nat, i = Int.negSucc m ∧ m + 1 < 10 ^ 30 := by
  unfold Num30 at h
  cases i with
  | ofNat n =>
    refine .inl ⟨n, rfl, ?_⟩
    have : (n : Int) < 10 ^ 30 := h.2
    omega
  | negSucc m =>
    refine .inr ⟨m, rfl, ?_⟩
    have := h.1
    omega
theorem numS_len {i : Int} (h : Num30 i) : 1 ≤ (numS i).length ∧ (numS i).length ≤ 31 := by
  have e : (numS i).length = (TL.tl (numS i)).length := (Array.length_toList (xs := (numS i).cps)).symm
  rcases num_cases h with ⟨n, rfl, hn⟩ | ⟨m, rfl, hm⟩
  · have := numL_30 hn
    rw [e, numS_nat]
    omega
  · have := numL_30 hm
    rw [e, numS_neg, List.length_cons]
    omega
theorem numS_free {i : Int} {s : Nat} (h : s < 45 ∨ 57 < s) : s ∉ TL.tl (numS i) := by
  cases i with
  | ofNat n =>
    have e : TL.tl (numS (Int.ofNat n)) = TL.numL n := numS_nat n
    rw [e]
    exact TL.numL_free (by omega)
  | negSucc m =>
    rw [numS_neg, List.mem_cons]
    rintro (rfl | h2)
    · omega
    · exact TL.numL_free (by omega) h2
theorem numS_int {i : Int} (h : Num30 i) : intText? (numS i) = some i := by
  rcases num_cases h with ⟨n, rfl, hn⟩ | ⟨m, rfl, hm⟩
  · exact TL.int_num (by have := numL_30 hn; omega)
  · have hl := numS_len h
    have := intText_neg (x := numS (Int.negSucc m)) (numS_neg m) (TL.numL_digits _) (TL.numL_ne _) (by omega)
    rw [this, TL.numL_val]
    rfl
/-! ### what the program takes for a number -/
def digS (w : Str) : Str := Txt.removeprefix w "-"
def digOk (c : Nat) : Bool := decide (c ∈ TL.tl "0123456789")
theorem digOk_iff {c : Nat} : digOk c = true ↔ 48 ≤ c ∧ c ≤ 57 := by
  have e : TL.tl "0123456789" = [48, 49, 50, 51, 52, 53, 54, 55, 56, 57] := by decide +kernel
  unfold digOk
  rw [decide_eq_true_iff, e]
  simp only [List.mem_cons, List.not_mem_nil, or_false]
  omega
def isNum (w : Str) : Bool := decide (1 ≤ (digS w).length ∧ (digS w).length ≤ 30) && (TL.tl (digS w)).all digOk && (decide ((TL.tl (digS w))[0]? ≠ some 48) || decide (w = "0"))
theorem digS_nat (n : Nat) : digS (numS (n : Int)) = numS (n : Int) := by
  obtain ⟨c, r, e, h⟩ := numL_any n
  unfold digS
  rw [StrLaws.removeprefix_eq, StrLaws.subAt_eq]
  have e1 : (numS (n : Int)).cps.toList = c :: r := (numS_nat n).trans e
  rw [e1]
  have e2 : ("-" : Str).cps.toList = [45] := by decide +kernel
  rw [e2]
  have e3 : (List.take ("-" : Str).length (List.drop 0 (c :: r)) == [45]) = false := by
    have : ("-" : Str).length = 1 := by decide +kernel
    rw [this, List.drop_zero, List.take_succ_cons, List.take_zero]
    exact beq_false_of_ne fun z => by
      injection z with z
      omega
  rw [e3, Bool.and_false]
  rfl
theorem digS_neg (m : Nat) : digS (numS (Int.negSucc m)) = numS ((m + 1 : Nat) : Int) := by
  unfold digS
  rw [StrLaws.removeprefix_eq, StrLaws.subAt_eq]
  have e1 : (numS (Int.negSucc m)).cps.toList = 45 :: TL.numL (m + 1) := numS_neg m
  have e2 : ("-" : Str).cps.toList = [45] := by decide +kernel
  have e0 : ("-" : Str).length = 1 := by decide +kernel
  have el : (numS (Int.negSucc m)).length = (TL.numL (m + 1)).length + 1 := by
    have : (numS (Int.negSucc m)).length = (numS (Int.negSucc m)).cps.toList.length := (Array.length_toList (xs := (numS (Int.negSucc m)).cps)).symm
    rw [this, e1, List.length_cons]
  rw [e1, e2, e0, el, List.drop_zero, List.take_succ_cons, List.take_zero, Nat.add_sub_cancel, if_pos (by simp), List.drop_succ_cons, List.drop_zero, List.take_length]
  exact (StrLaws.mk_of_toList (numS_nat (m + 1))).symm
theorem isNum_nat {n : Nat} (h : n < 10 ^ 30) (h0 : digS w = numS (n : Int)) (hz : n = 0 → w = "0") : isNum w = true := by
  have hl := numL_30 h
  have e : (numS (n : Int)).length = (TL.numL n).length := by
    rw [← numS_nat]
    exact (Array.length_toList (xs := (numS (n : Int)).cps)).symm
  unfold isNum
  rw [h0, numS_nat, e, decide_eq_true hl, Bool.true_and, Bool.and_eq_true]
  refine ⟨List.all_eq_true.mpr fun c hc => digOk_iff.mpr (TL.numL_digits n c hc), ?_⟩
  rcases Nat.eq_zero_or_pos n with z | z
  · rw [decide_eq_true (hz z), Bool.or_true]
  · obtain ⟨c, r, ec, hc⟩ := numL_head (n + 1) n (by omega) z
    rw [ec, decide_eq_true (p := (c :: r)[0]? ≠ some 48) (fun z => by injection z with z; omega), Bool.true_or]
theorem isNum_numS {i : Int} (h : Num30 i) : isNum (numS i) = true := by
  rcases num_cases h with ⟨n, rfl, hn⟩ | ⟨m, rfl, hm⟩
  · exact isNum_nat hn (digS_nat n) (fun z => by subst z; decide +kernel)
  · exact isNum_nat hm (digS_neg m) (fun z => absurd z (by omega))
end RS
namespace RS
open PySem L2
section
variable {P : Program} {w : World} {K : PySem.W.Frag} {mg : Str → Option Value} {base : Heap}
/-! ### _is_number -/
theorem str_len (z : Str) : z.cps.size = (TL.tl z).length := (Array.length_toList (xs := z.cps)).symm
theorem str_at (z : Str) (i : Nat) : z.cps[i]? = (TL.tl z)[i]? := (Array.getElem?_toList (xs := z.cps) (i := i)).symm
theorem digS_len (z : Str) : (digS z).length ≤ z.length := by
  unfold digS
  rw [StrLaws.removeprefix_eq]
  by_cases h : (decide (0 + ("-" : Str).length ≤ z.length) && Builtin.Str.subAt z "-" 0) = true
  · rw [if_pos h]
    show (List.toArray _).size ≤ _
    rw [List.size_toArray, List.length_take]
    have : z.cps.toList.length = z.length := Array.length_toList (xs := z.cps)
    omega
  · rw [if_neg h]
    exact Nat.le_refl _
def spIsNum : Sp := fun vs H Q _ => ∃ z : Str, vs = [.str z] ∧ z.length ≤ 100000 ∧ ∀ H', Same H H' → Q (.bl (isNum z)) H'
def inN : List Str := ["word", "digits", "digit"]
theorem scIsNum : FnScope inN ["word"] (defScope s_is_number) := ⟨rfl, rfl, rfl, by decide +kernel, rfl, by decide +kernel, by decide +kernel⟩
theorem ok_isNum {f C : Addr} {fd : FuncData} (F : Fun K "_is_number" "_is_number" s_is_number f fd) (T : Txt K mg C) (tD : ∃ t, mg "_MOST_DIGITS" = some (.int 30 t)) : FnOk P w K mg base CX0 1 f fd ["word"] spIsNum := by
  obtain ⟨t2, mD⟩ := tD
  refine F.ok scIsNum (fun vs H Q E h => ?_) (fun cdv A outer s H vs Q E hr h => ?_)
  · obtain ⟨z, rfl, _⟩ := h
    rfl
  · obtain ⟨z, rfl, hz, k⟩ := h
    refine ⟨_, (pss_cons (ps_set (i := 1) scIsNum.nd rfl (Or.inl rfl) (pe_m1 PySem.F.slot_str_removeprefix PySem.F.type_str_removeprefix mt_removeprefix (pv 0) pe_str)) (pss_cons (ps_if (PW.pt (pw_or (pt_not (pt_chain op_le op_le pe_int (pe_callB call_len_str (by rfl) T.len (by decide +kernel) (pa_cons (pv 1) pa_nil)) (pe_glob (v := .int 30) rfl mD ⟨_, rfl⟩))) (pw_or1 (pt_not (pt_val (pe_callB (cr_all rfl) (by rfl) T.all (by decide +kernel) (pa_cons (pe_lc (own := [("digit", 2)]) (g := gName 2) (tt := tYes) rfl scIsNum.nd (pi_str (pv 1)) (blkOk_by (own := [("digit", 2)]) (N := inN) (sc := (defScope s_is_number)) (by decide +kernel)) (fun _ _ _ _ _ => (pg_name (i := 2) scIsNum.nd rfl (Or.inl rfl))) (fun _ _ _ _ _ => pts_nil) (fun _ _ _ _ _ => (pe_cmpR op_in_str (pv 2) pe_str (by rfl)))) pa_nil))))))) (pss_one (ps_ret pe_bl)) pss_nil) (pss_one (ps_ret (pe_or (pe_cmpR op_ne (pe_item_str (pv 1) pe_int (fun _ _ => rfl)) pe_str (nomark _)) (pe_one (pe_cmpR op_eq (pv 0) pe_str (nomark _)))))))), ?_⟩
    refine ⟨_, rfl, ⟨_, rfl⟩, _, _, rfl, rfl, Nat.le_trans hz (by decide), ?_⟩
    have hdl := digS_len z
    unfold isNum at k
    have e0 : Txt.removeprefix z "-" = digS z := rfl
    rw [e0]
    generalize digS z = d at hdl k
    have no : (decide (1 ≤ d.length ∧ d.length ≤ 30) && (TL.tl d).all digOk && (decide ((TL.tl d)[0]? ≠ some 48) || decide (z = "0"))) = false → ∀ H', Same H H' → Q (.bl false) H' := fun e => by
      rw [e] at k
      exact k
    refine ⟨_, rfl, d, rfl, Nat.le_trans hdl (Nat.le_trans hz (by decide)), _, _, rfl, rfl, _, rfl, ?_⟩
    by_cases h1 : (1 : Int) ≤ (d.length : Nat)
    case neg =>
      refine iteFb (decide_eq_false h1) ?_
      exact ⟨_, rfl, iteT (no (by rw [decide_eq_false (fun h => h1 (by omega)), Bool.false_and, Bool.false_and]) H (Same.refl H))⟩
    refine iteTb (decide_eq_true h1) ?_
    by_cases h2 : ((d.length : Nat) : Int) ≤ 30
    case neg =>
      refine ⟨_, _, rfl, rfl, _, rfl, ?_⟩
      exact iteTb (by rw [decide_eq_false h2]; rfl) (iteT (no (by rw [decide_eq_false (fun h => h2 (by omega)), Bool.false_and, Bool.false_and]) H (Same.refl H)))
    refine ⟨_, _, rfl, rfl, _, rfl, iteFb (by rw [decide_eq_true h2]; rfl) ?_⟩
    have h12 : decide (1 ≤ d.length ∧ d.length ≤ 30) = true := decide_eq_true ⟨by omega, by omega⟩
    rw [h12, Bool.true_and] at no k
    refine ⟨_, rfl, d, rfl, fun D hD => lc_it walk_str (fun i H' => Same H H' ∧ H' D = some (.lst ((((TL.tl d).take i).map digOk).map V.bl))) ⟨same_new hD, upd_same⟩ (fun _ _ _ _ => True.intro) (fun i x H0 H1 hi p y => ?_) (fun H1 p => ?_)⟩
    · obtain ⟨rfl, c, hc, rfl⟩ := y
      rw [str_at] at hc
      refine ⟨rfl, ?_⟩
      refine yes_t (iteT ?_)
      refine ⟨_, rfl, _, _, rfl, rfl, _, p.2, ?_, fun b o e => ?_, ?_⟩
      · rw [List.length_map, List.length_map, List.length_take]
        exact small1000 (by have z1 := str_len d; have z2 : d.length = d.cps.size := rfl; omega)
      · rw [upd_ne (ne_of_none e hD)]
        exact p.1 b o e
      · rw [upd_same, StrLaws.found_one, List.take_add_one, hc, List.map_append, List.map_append]
        rfl
    · rw [str_len, List.take_length] at p
      refine ⟨D, _, rfl, SqL.of p.2, ?_⟩
      have ea : (List.map digOk (TL.tl d)).all id = (TL.tl d).all digOk := by rw [List.all_map]; rfl
      rw [ea]
      refine ⟨_, rfl, ?_⟩
      by_cases h3 : (TL.tl d).all digOk = true
      case neg =>
        have h3 : (TL.tl d).all digOk = false := Bool.eq_false_iff.mpr h3
        rw [h3, Bool.false_and] at no
        rw [h3]
        exact iteT (no rfl H1 p.1)
      rw [h3, Bool.true_and] at k
      rw [h3]
      refine iteF ?_
      have hl : (TL.tl d).length = d.length := (str_len d).symm
      obtain ⟨c, hc⟩ : ∃ c, (TL.tl d)[0]? = some c := ⟨_, List.getElem?_eq_getElem (by omega)⟩
      refine ⟨_, rfl, d, 0, c, rfl, rfl, by decide, by decide, by omega, by rw [str_at]; exact hc, rfl, _, rfl, ?_⟩
      have e4 : (!decide (V.str ⟨#[c]⟩ = V.str "0")) = decide ((TL.tl d)[0]? ≠ some 48) := by
        have e5 : ("0" : Str) = ⟨#[48]⟩ := by decide +kernel
        rw [hc, e5]
        by_cases h : c = 48
        · subst h
          rfl
        · rw [decide_eq_false (fun z => h (by injection z with z; injection z with z; injection z with z; injection z with z)), decide_eq_true (p := some c ≠ some 48) (fun z => h (Option.some.inj z))]
          rfl
      rw [e4]
      by_cases h5 : decide ((TL.tl d)[0]? ≠ some 48) = true
      · rw [h5, Bool.true_or] at k
        rw [h5]
        exact iteT (k H1 p.1)
      · have h5 : decide ((TL.tl d)[0]? ≠ some 48) = false := Bool.eq_false_iff.mpr h5
        rw [h5, Bool.false_or] at k
        rw [h5]
        refine iteF ⟨_, rfl, rfl, ?_⟩
        have e6 : decide (V.str z = V.str "0") = decide (z = "0") := decide_eq_decide.mpr ⟨fun h => V.str.inj h, fun h => congrArg V.str h⟩
        rw [e6]
        exact k H1 p.1
end
end RS
namespace RS
open PySem L2
/-! ### a line of words -/
structure TxtL (K : PySem.W.Frag) (mg : Str → Option Value) (CLi : Addr) : Prop where
  cl : Cls K CLi
  nN : NoAttr K CLi "_number"
  nA : NoAttr K CLi "_at"
  nW : NoAttr K CLi "_words"
  mgL : mg "Line" = some (.ref CLi)
theorem lk1 : ¬ (("_number" : Str) = "_at") := by decide +kernel
theorem lk2 : ¬ (("_number" : Str) = "_words") := by decide +kernel
theorem lk3 : ¬ (("_at" : Str) = "_words") := by decide +kernel
def lfl (n k : Int) (q : Addr) : List (Str × V) := [("_number", .int n), ("_at", .int k), ("_words", .ref q)]
theorem lfl_1 (n k : Int) : putF "_at" (.int k) ([("_number", .int n)] : List (Str × V)) = ([("_number", .int n), ("_at", .int k)] : List (Str × V)) := by
  rw [putF, if_neg lk1]; rfl
theorem lfl_2 (n k : Int) (q : Addr) : putF "_words" (.ref q) ([("_number", .int n), ("_at", .int k)] : List (Str × V)) = lfl n k q := by
  rw [putF, if_neg lk2, putF, if_neg lk3]; rfl
theorem lfl_3 (n k j : Int) (q : Addr) : putF "_at" (.int j) (lfl n k q) = lfl n j q := by
  unfold lfl
  rw [putF, if_neg lk1, putF, if_pos rfl]
theorem lfl_no (n k : Int) (q : Addr) {m : Str} (h1 : m ≠ "_number") (h2 : m ≠ "_at") (h3 : m ≠ "_words") : (lfl n k q).lookup m = none := by
  unfold lfl
  rw [List.lookup, beq_false_of_ne h1]
  show List.lookup m _ = _
  rw [List.lookup, beq_false_of_ne h2]
  show List.lookup m _ = _
  rw [List.lookup, beq_false_of_ne h3]
  rfl
theorem lfl_n (n k : Int) (q : Addr) : (lfl n k q).lookup ("_number" : Str) = some (.int n) := by
  unfold lfl
  rw [List.lookup, beq_self_eq_true]
theorem lfl_a (n k : Int) (q : Addr) : (lfl n k q).lookup ("_at" : Str) = some (.int k) := by
  unfold lfl
  rw [List.lookup, beq_false_of_ne (fun e => lk1 e.symm)]
  show List.lookup _ _ = _
  rw [List.lookup, beq_self_eq_true]
theorem lfl_w (n k : Int) (q : Addr) : (lfl n k q).lookup ("_words" : Str) = some (.ref q) := by
  unfold lfl
  rw [List.lookup, beq_false_of_ne (fun e => lk2 e.symm)]
  show List.lookup _ _ = _
  rw [List.lookup, beq_false_of_ne (fun e => lk3 e.symm)]
  show List.lookup _ _ = _
  rw [List.lookup, beq_self_eq_true]
/-- a line stands at p, its words at q, the next one to read is the k-th -/
structure LnAt (C : Addr) (H : Hp) (p q : Addr) (n : Int) (k : Nat) (ws : List Str) : Prop where
  ob : ∃ dx, H p = some (.ins C dx (lfl n k q))
  hq : H q = some (.lst (ws.map V.str))
  ok : ws.length ≤ 100000 ∧ ∀ z ∈ ws, z.length ≤ 100000
theorem LnAt.mono {C : Addr} {H H' : Hp} {p q : Addr} {n : Int} {k : Nat} {ws : List Str} (R : LnAt C H p q n k ws) (h : Same H H') : LnAt C H' p q n k ws :=
  ⟨let ⟨dx, e⟩ := R.ob; ⟨dx, h _ _ e⟩, h _ _ R.hq, R.ok⟩
theorem LnAt.ne {C : Addr} {H : Hp} {p q : Addr} {n : Int} {k : Nat} {ws : List Str} (R : LnAt C H p q n k ws) : q ≠ p :=
  let ⟨_, e⟩ := R.ob
  ne_of R.hq e (by intro z; cases z)
theorem LnAt.step {C : Addr} {H : Hp} {p q : Addr} {n : Int} {k : Nat} {ws : List Str} (R : LnAt C H p q n k ws) (j : Nat) : ∃ dx, H p = some (.ins C dx (lfl n k q)) ∧ LnAt C (upd H p (.ins C dx (putF "_at" (.int (j : Int)) (lfl n k q)))) p q n j ws := by
  obtain ⟨dx, e⟩ := R.ob
  exact ⟨dx, e, ⟨dx, by rw [upd_same, lfl_3]⟩, by rw [upd_ne R.ne]; exact R.hq, R.ok⟩
section
variable {P : Program} {w : World} {K : PySem.W.Frag} {mg : Str → Option Value} {base : Heap}
section
variable {C p q : Addr} {n : Int} {k : Nat} {ws : List Str} {H : Hp} {σ : L2.St} {i : Nat}
theorem rlN {Q : VK} (T : TxtL K mg C) (R : LnAt C H p q n k ws) (hi : σ[i]? = some (some (.ref p))) (z : Q (.int n) H) : tFld K (tVar i) "_number" σ H Q := by
  obtain ⟨dx, h⟩ := R.ob
  exact ⟨_, hi, p, C, dx, _, _, rfl, h, T.cl, T.nN, lfl_n _ _ _, z⟩
theorem rlA {Q : VK} (T : TxtL K mg C) (R : LnAt C H p q n k ws) (hi : σ[i]? = some (some (.ref p))) (z : Q (.int (k : Int)) H) : tFld K (tVar i) "_at" σ H Q := by
  obtain ⟨dx, h⟩ := R.ob
  exact ⟨_, hi, p, C, dx, _, _, rfl, h, T.cl, T.nA, lfl_a _ _ _, z⟩
theorem rlW {Q : VK} (T : TxtL K mg C) (R : LnAt C H p q n k ws) (hi : σ[i]? = some (some (.ref p))) (z : Q (.ref q) H) : tFld K (tVar i) "_words" σ H Q := by
  obtain ⟨dx, h⟩ := R.ob
  exact ⟨_, hi, p, C, dx, _, _, rfl, h, T.cl, T.nW, lfl_w _ _ _, z⟩
/-- the length of the words -/
theorem rlL {Q : VK} (T : TxtL K mg C) (R : LnAt C H p q n k ws) (hi : σ[i]? = some (some (.ref p))) (z : Q (.int (ws.length : Int)) H) : tCB (fun xs H Q => ∃ p ys, xs = [V.ref p] ∧ (SqL K H p ys ∨ SqT K H p ys) ∧ Q (.int ys.length) H) (tCons (tFld K (tVar i) "_words") tNil) σ H Q := by
  refine rlW T R hi ⟨q, _, rfl, .inl (SqL.of R.hq), ?_⟩
  rw [List.length_map]
  exact z
/-- the next word -/
theorem rlX {Q : VK} {u : Str} (T : TxtL K mg C) (R : LnAt C H p q n k ws) (hi : σ[i]? = some (some (.ref p))) (hu : ws[k]? = some u) (z : Q (.str u) H) : tOp (rIxL K) (tFld K (tVar i) "_words") (tFld K (tVar i) "_at") σ H Q := by
  dsimp only [tOp]
  refine rlW T R hi (rlA T R hi ⟨q, _, _, _, rfl, rfl, SqL.of R.hq, atI_nat (j := k) ?_, z⟩)
  rw [List.getElem?_map, hu]
  rfl
/-- the word before -/
theorem rlP {Q : VK} {u : Str} (T : TxtL K mg C) (R : LnAt C H p q n (k + 1) ws) (hi : σ[i]? = some (some (.ref p))) (hu : ws[k]? = some u) (z : Q (.str u) H) : tOp (rIxL K) (tFld K (tVar i) "_words") (tOp (rI0 fun i j => .int (i - j)) (tFld K (tVar i) "_at") (tC (.int 1))) σ H Q := by
  dsimp only [tOp]
  refine rlW T R hi (rlA T R hi ⟨_, _, rfl, rfl, q, _, _, _, rfl, rfl, SqL.of R.hq, ?_, z⟩)
  have e : ((k + 1 : Nat) : Int) - 1 = (k : Int) := by omega
  show atI (ws.map V.str) (((k + 1 : Nat) : Int) - 1) = _
  rw [e]
  refine atI_nat (j := k) ?_
  rw [List.getElem?_map, hu]
  rfl
end
end
end RS
namespace RS
open PySem L2
section
variable {P : Program} {w : World} {K : PySem.W.Frag} {mg : Str → Option Value} {base : Heap}
/-! ### _is_pair -/
def isPair (z mk : Str) : Bool := decide ((Txt.partition z mk).2.1 = mk) && isNum (Txt.partition z mk).1 && isNum (Txt.partition z mk).2.2
theorem app_len (a b : Str) : (a ++ b).length = a.length + b.length := by
  have e : ∀ x : Str, x.length = (TL.tl x).length := fun x => str_len x
  rw [e, e, e, TL.tl_append, List.length_append]
theorem part_len (z mk : Str) : (Txt.partition z mk).1.length ≤ z.length ∧ (Txt.partition z mk).2.2.length ≤ z.length := by
  have h := congrArg Str.length (StrLaws.partition_sum z mk)
  rw [app_len, app_len] at h
  omega
def spIsPair : Sp := fun vs H Q _ => ∃ z mk : Str, vs = [.str z, .str mk] ∧ (mk.length == 0) = false ∧ z.length ≤ 100000 ∧ ∀ H', Same H H' → Q (.bl (isPair z mk)) H'
def ipN : List Str := ["word", "mark", "first", "found", "second"]
theorem scIsPair : FnScope ipN ["word", "mark"] (defScope s_is_pair) := ⟨rfl, rfl, rfl, by decide +kernel, rfl, by decide +kernel, by decide +kernel⟩
theorem ok_isPair {f C fN : Addr} {fd fdN : FuncData} (F : Fun K "_is_pair" "_is_pair" s_is_pair f fd) (T : Txt K mg C) (GN : FnOk P w K mg base CX0 1 fN fdN ["word"] spIsNum) (bN : Binds K fdN ["word"] []) (mN : mg "_is_number" = some (.ref fN)) (kN : PySem.W.keepIn K (.ref fN) = true) : FnOk P w K mg base CX0 2 f fd ["word", "mark"] spIsPair := by
  refine F.ok scIsPair (fun vs H Q E h => ?_) (fun cdv A outer s H vs Q E hr h => ?_)
  · obtain ⟨z, mk, rfl, _⟩ := h
    rfl
  · obtain ⟨z, mk, rfl, hm, hz, k⟩ := h
    refine ⟨_, (pss_cons (ps_asg (pe_partition (pv 0) (pv 1)) (pg_tup rfl (pgs_cons (pg_name (i := 2) scIsPair.nd rfl (Or.inl rfl)) (pgs_cons (pg_name (i := 3) scIsPair.nd rfl (Or.inl rfl)) (pgs_cons (pg_name (i := 4) scIsPair.nd rfl (Or.inl rfl)) pgs_nil))))) (pss_one (ps_ret (pe_and (pe_cmpR op_eq (pv 3) (pv 1) (nomark _)) (pe_and (pe_call GN hr rfl mN kN bN .nil pass0 (pa_cons (pv 2) pa_nil)) (pe_one (pe_call GN hr rfl mN kN bN .nil pass0 (pa_cons (pv 4) pa_nil)))))))), ?_⟩
    have hl := part_len z mk
    unfold isPair at k
    refine ⟨_, rfl, ⟨_, rfl⟩, _, rfl, _, _, rfl, rfl, hm, Nat.le_trans hz (by decide), fun p hp => ?_⟩
    have S0 := same_new (o := .tup [.str (Txt.partition z mk).1, .str (Txt.partition z mk).2.1, .str (Txt.partition z mk).2.2]) hp
    refine ⟨p, _, rfl, SqT.of upd_same, rfl, _, _, rfl, _, _, rfl, _, _, rfl, rfl, ?_⟩
    generalize upd H p (.tup [.str (Txt.partition z mk).1, .str (Txt.partition z mk).2.1, .str (Txt.partition z mk).2.2]) = H1 at S0
    refine ⟨_, rfl, _, rfl, rfl, _, rfl, ?_⟩
    have e6 : decide (V.str (Txt.partition z mk).2.1 = V.str mk) = decide ((Txt.partition z mk).2.1 = mk) := decide_eq_decide.mpr ⟨fun h => V.str.inj h, fun h => congrArg V.str h⟩
    rw [e6]
    by_cases h1 : (Txt.partition z mk).2.1 = mk
    case neg =>
      rw [decide_eq_false h1, Bool.false_and, Bool.false_and] at k
      rw [decide_eq_false h1]
      exact iteF (k _ S0)
    rw [decide_eq_true h1, Bool.true_and] at k
    rw [decide_eq_true h1]
    refine iteT ?_
    refine ⟨_, rfl, _, rfl, Nat.le_trans hl.1 hz, fun H2 S2 => ⟨_, rfl, ?_⟩⟩
    by_cases h2 : isNum (Txt.partition z mk).1 = true
    case neg =>
      have h2 := Bool.eq_false_iff.mpr h2
      rw [h2, Bool.false_and] at k
      rw [h2]
      exact iteF (k _ (S0.trans S2))
    rw [h2, Bool.true_and] at k
    rw [h2]
    refine iteT ?_
    exact ⟨_, rfl, _, rfl, Nat.le_trans hl.2 hz, fun H3 S3 => k _ ((S0.trans S2).trans S3)⟩
end
end RS
namespace RS
open PySem L2
section
variable {P : Program} {w : World} {K : PySem.W.Frag} {mg : Str → Option Value} {base : Heap}
/-! ### lines_of, check_no_line -/
def spLines : Sp := fun vs H Q _ => ∃ z : Str, vs = [.str z] ∧ z.length ≤ 100000 ∧ ∀ p, H p = none → Q (.ref p) (upd H p (.lst ((Txt.split z "\n").map V.str)))
theorem scLines : FnScope ["text"] ["text"] (defScope s_lines_of) := ⟨rfl, rfl, rfl, by decide +kernel, rfl, by decide +kernel, by decide +kernel⟩
theorem ok_lines {f C : Addr} {fd : FuncData} (F : Fun K "lines_of" "lines_of" s_lines_of f fd) (T : Txt K mg C) : FnOk P w K mg base CX0 1 f fd ["text"] spLines := by
  refine F.ok scLines (fun vs H Q E h => ?_) (fun cdv A outer s H vs Q E hr h => ?_)
  · obtain ⟨z, rfl, _⟩ := h
    rfl
  · obtain ⟨z, rfl, hz, k⟩ := h
    refine ⟨_, (pss_cons (ps_if (pt_not (pt_val (pe_callB call_isi (by rfl) T.isi (by decide +kernel) (pa_cons (pv 0) (pa_cons (pe_bltn (v := .ty "str") (by rfl) T.str (by decide +kernel) rfl) pa_nil))))) (pss_one ps_never) pss_nil) (pss_one (ps_ret (pe_split (pv 0) pe_str)))), ?_⟩
    refine ⟨_, rfl, _, _, _, _, _, rfl, .ty _, .base (.str _), kit_ty (r := true) (by decide +kernel), true, rfl, iteF ?_⟩
    exact ⟨_, rfl, ⟨_, rfl⟩, _, _, rfl, rfl, by decide +kernel, Nat.le_trans (Nat.add_le_add_right hz 2) (by decide), k⟩
def spNoLine : Sp := fun vs H Q _ => ∃ (p : Addr) (xs : List V) (n : Int), vs = [.ref p, .int n] ∧ H p = some (.lst xs) ∧ (xs.length : Int) ≤ n ∧ Q .non H
theorem scNoLine : FnScope ["lines", "number"] ["lines", "number"] (defScope s_check_no_line) := ⟨rfl, rfl, rfl, by decide +kernel, rfl, by decide +kernel, by decide +kernel⟩
theorem ok_noLine {f C : Addr} {fd : FuncData} (F : Fun K "check_no_line" "check_no_line" s_check_no_line f fd) (T : Txt K mg C) : FnOk P w K mg base CX0 1 f fd ["lines", "number"] spNoLine := by
  refine F.ok scNoLine (fun vs H Q E h => ?_) (fun cdv A outer s H vs Q E hr h => ?_)
  · obtain ⟨p, xs, n, rfl, _⟩ := h
    rfl
  · obtain ⟨p, xs, n, rfl, hp, hn, k⟩ := h
    refine ⟨_, (pss_one (ps_if (pt_cmpR op_gt (pe_callB call_len_seq (by rfl) T.len (by decide +kernel) (pa_cons (pv 0) pa_nil)) (pv 1) (nomark _)) (pss_one ps_never) pss_nil)), ?_⟩
    exact ⟨_, rfl, p, _, rfl, .inl (SqL.of hp), _, rfl, _, _, rfl, rfl, _, rfl, iteFb (decide_eq_false (by omega)) k⟩
/-! ### Line.__init__ -/
/-- the words of a line -/
def wordsOf (z : Str) : List Str := if z.length = 0 then [] else Txt.split z " "
def spLn (CLi : Addr) : Sp := fun vs H Q _ => ∃ (p dx a : Addr) (ls : List Str) (n : Nat) (z : Str), vs = [.ref p, .ref a, .int (n : Int)] ∧ H p = some (.ins CLi dx []) ∧ H a = some (.lst (ls.map V.str)) ∧ ls[n]? = some z ∧ z.length ≤ 90000 ∧
  ∀ (q : Addr) (H' : Hp), H q = none → (∀ b u, H b = some u → b ≠ p → H' b = some u) → LnAt CLi H' p q (n : Int) 0 (wordsOf z) → Q .non H'
theorem scLn : FnScope ["self", "lines", "number"] ["self", "lines", "number"] (defScope s_Line_ddinitdd) := ⟨rfl, rfl, rfl, by decide +kernel, rfl, by decide +kernel, by decide +kernel⟩
theorem words_ok {z : Str} (h : z.length ≤ 90000) : (wordsOf z).length ≤ 100000 ∧ ∀ x ∈ wordsOf z, x.length ≤ 100000 := by
  unfold wordsOf
  by_cases h0 : z.length = 0
  · rw [if_pos h0]
    exact ⟨by decide, fun x hx => nomatch hx⟩
  · rw [if_neg h0]
    refine ⟨?_, fun x hx => ?_⟩
    · have := PyProof.Rows.split_le z " "
      omega
    · have := PyProof.Rows.part_short hx
      omega
theorem ok_ln {f C CLi : Addr} {fd : FuncData} (F : Fun K "__init__" "Line.__init__" s_Line_ddinitdd f fd) (T : Txt K mg C) (TL : TxtL K mg CLi) : FnOk P w K mg base CX0 1 f fd ["self", "lines", "number"] (spLn CLi) := by
  refine F.ok scLn (fun vs H Q E h => ?_) (fun cdv A outer s H vs Q E hr h => ?_)
  · obtain ⟨p, dx, a, ls, n, z, rfl, _⟩ := h
    rfl
  · obtain ⟨p, dx, a, ls, n, z, rfl, hp, ha, hz, hz0, k⟩ := h
    refine ⟨_, (pss_cons (ps_fld (pv 0) (pv 2) rfl) (pss_cons (ps_fld (pv 0) pe_int rfl) (pss_cons (ps_if (pt_cmpR op_ge (pv 2) (pe_callB call_len_seq (by rfl) T.len (by decide +kernel) (pa_cons (pv 1) pa_nil)) (nomark _)) (pss_one ps_never) pss_nil) (pss_one (ps_fld (pv 0) (pe_ifExp (pt_truth (pe_ix ix_list (pv 1) (pv 2) (fun _ _ => rfl)) (fun _ => rfl)) (pe_split (pe_ix ix_list (pv 1) (pv 2) (fun _ _ => rfl)) pe_str) (pe_lst pa_nil)) rfl))))), ?_⟩
    have npa : a ≠ p := ne_of ha hp (by intro z; cases z)
    have hnl : n < ls.length := (List.getElem?_eq_some_iff.mp hz).1
    refine ⟨_, rfl, _, rfl, p, CLi, dx, [], rfl, hp, TL.cl, TL.nN, (by show 0 < 1000; decide), ?_⟩
    refine ⟨_, rfl, p, CLi, dx, _, rfl, upd_same, TL.cl, TL.nA, (by show 1 < 1000; decide), ?_⟩
    have e1 : putF "_at" (.int 0) (putF "_number" (.int (n : Int)) []) = ([("_number", .int (n : Int)), ("_at", .int 0)] : List (Str × V)) := lfl_1 (n : Int) 0
    rw [e1]
    have kp : ∀ b u, H b = some u → b ≠ p → (upd (upd H p (.ins CLi dx (putF "_number" (.int (n : Int)) []))) p (.ins CLi dx [("_number", .int (n : Int)), ("_at", .int 0)])) b = some u := fun b u e nb => by
      rw [upd_ne nb, upd_ne nb]
      exact e
    have hp2 := upd_same (H := upd H p (.ins CLi dx (putF "_number" (.int (n : Int)) []))) (a := p) (o := .ins CLi dx [("_number", .int (n : Int)), ("_at", .int 0)])
    have fr : ∀ b, (upd (upd H p (.ins CLi dx (putF "_number" (.int (n : Int)) []))) p (.ins CLi dx [("_number", .int (n : Int)), ("_at", .int 0)])) b = none → H b = none := fun b hb => by
      by_cases e : b = p
      · subst e
        rw [hp2] at hb
        cases hb
      · rw [upd_ne e, upd_ne e] at hb
        exact hb
    generalize upd (upd H p (.ins CLi dx (putF "_number" (.int (n : Int)) []))) p (.ins CLi dx [("_number", .int (n : Int)), ("_at", .int 0)]) = H2 at kp hp2 fr
    have ha2 := kp _ _ ha npa
    refine ⟨_, rfl, _, rfl, a, _, rfl, .inl (SqL.of ha2), _, _, rfl, rfl, _, rfl, ?_⟩
    rw [List.length_map]
    refine iteFb (decide_eq_false (by omega)) ?_
    have hat : atI (ls.map V.str) (n : Int) = some (V.str z) := atI_nat (by rw [List.getElem?_map, hz]; rfl)
    refine ⟨_, rfl, _, rfl, a, _, _, _, rfl, rfl, SqL.of ha2, hat, _, ⟨Nat.le_trans hz0 (by decide), rfl⟩, ?_⟩
    have fin : ∀ q, H2 q = none → wordsOf z = wordsOf z → ∀ H3, H3 = upd (upd H2 q (.lst ((wordsOf z).map V.str))) p (.ins CLi dx (putF "_words" (.ref q) [("_number", .int (n : Int)), ("_at", .int 0)])) → Q .non H3 := fun q hq _ H3 e => by
      have nqp : q ≠ p := (ne_of_none hp2 hq).symm
      subst e
      rw [lfl_2]
      refine k q _ (fr q hq) (fun b u e nb => ?_) ⟨⟨dx, upd_same⟩, by rw [upd_ne nqp, upd_same], words_ok hz0⟩
      have e2 := kp b u e nb
      rw [upd_ne nb, upd_ne (ne_of_none e2 hq)]
      exact e2
    by_cases h0 : z.length = 0
    · have ew : wordsOf z = [] := by unfold wordsOf; rw [if_pos h0]
      refine iteFb (by rw [h0]; rfl) ?_
      refine ⟨(by show 0 ≤ sizeLine; decide), fun q hq => ⟨_, rfl, p, CLi, dx, _, rfl, by rw [upd_ne (ne_of_none hp2 hq)]; exact hp2, TL.cl, TL.nW, (by show 2 < 1000; decide), ?_⟩⟩
      exact fin q hq rfl _ (by rw [ew]; rfl)
    · have ew : wordsOf z = Txt.split z " " := by unfold wordsOf; rw [if_neg h0]
      refine iteTb (bne_iff_ne.mpr (by omega)) ?_
      refine ⟨_, rfl, _, rfl, a, _, _, _, rfl, rfl, SqL.of ha2, hat, ⟨_, rfl⟩, _, _, rfl, rfl, by decide +kernel, Nat.le_trans (Nat.add_le_add_right hz0 2) (by decide), fun q hq => ⟨_, rfl, p, CLi, dx, _, rfl, by rw [upd_ne (ne_of_none hp2 hq)]; exact hp2, TL.cl, TL.nW, (by show 2 < 1000; decide), ?_⟩⟩
      exact fin q hq rfl _ (by rw [ew])
end
end RS
namespace RS
open PySem L2
section
variable {P : Program} {w : World} {K : PySem.W.Frag} {mg : Str → Option Value} {base : Heap}
/-! ### a line's words, read one after another -/
theorem inV_str {u : Str} {os : List Str} (h : u ∈ os) : inV (.str u) (os.map V.str) = true := by
  unfold inV
  rw [List.any_eq_true]
  exact ⟨.str u, List.mem_map.mpr ⟨u, h, rfl⟩, (beq_self_eq_true u : (u == u) = true)⟩
theorem strs_flat (os : List Str) : (os.map V.str).all flatV = true := by
  rw [List.all_eq_true]
  intro x hx
  obtain ⟨u, _, rfl⟩ := List.mem_map.mp hx
  rfl
section
variable {C p q : Addr} {n : Int} {k : Nat} {ws : List Str} {H : Hp} {σ : L2.St} {i : Nat}
theorem rlStep {D : Ends} (T : TxtL K mg C) (R : LnAt C H p q n k ws) (hi : σ[i]? = some (some (.ref p))) (z : ∀ H', Kx p H H' → LnAt C H' p q n (k + 1) ws → D.nx σ H') : sFld K (tVar i) (tOp (rI0 fun i j => .int (i + j)) (tFld K (tVar i) "_at") (tC (.int 1))) "_at" D σ H := by
  dsimp only [sFld, tOp]
  refine rlA T R hi ⟨_, _, rfl, rfl, ?_⟩
  obtain ⟨dx, e, R2⟩ := R.step (k + 1)
  exact ⟨_, hi, p, C, dx, _, rfl, e, T.cl, T.nA, (by show 3 < 1000; decide), z _ Kx.upd R2⟩
/-- at < len -/
theorem rlLt {Q : Bool → Hp → Prop} (T : TxtL K mg C) (R : LnAt C H p q n k ws) (hi : σ[i]? = some (some (.ref p))) (z : Q (decide (k < ws.length)) H) : tTest (tOp (rI0 fun i j => .bl (decide (i < j))) (tFld K (tVar i) "_at") (tCB (fun xs H Q => ∃ p ys, xs = [V.ref p] ∧ (SqL K H p ys ∨ SqT K H p ys) ∧ Q (.int ys.length) H) (tCons (tFld K (tVar i) "_words") tNil))) σ H Q := by
  dsimp only [tTest, tOp]
  refine rlA T R hi (rlL T R hi ⟨_, _, rfl, rfl, _, rfl, ?_⟩)
  rw [show decide ((k : Int) < (ws.length : Int)) = decide (k < ws.length) from decide_eq_decide.mpr (by omega)]
  exact z
/-- at == len, no -/
theorem rlNe {Q : Bool → Hp → Prop} (T : TxtL K mg C) (R : LnAt C H p q n k ws) (hi : σ[i]? = some (some (.ref p))) (h : k ≠ ws.length) (z : Q false H) : tTest (tOp rEq (tFld K (tVar i) "_at") (tCB (fun xs H Q => ∃ p ys, xs = [V.ref p] ∧ (SqL K H p ys ∨ SqT K H p ys) ∧ Q (.int ys.length) H) (tCons (tFld K (tVar i) "_words") tNil))) σ H Q := by
  dsimp only [tTest, tOp]
  refine rlA T R hi (rlL T R hi ⟨rfl, _, rfl, ?_⟩)
  rw [decide_eq_false (fun e => h (by have := V.int.inj e; omega))]
  exact z
end
def spOf (C : Addr) : Sp := fun vs H Q _ => ∃ (p q t : Addr) (n : Int) (k : Nat) (ws os : List Str) (u : Str), vs = [.ref p, .ref t] ∧ LnAt C H p q n k ws ∧ ws[k]? = some u ∧ H t = some (.tup (os.map V.str)) ∧ u ∈ os ∧
  ∀ H', Kx p H H' → LnAt C H' p q n (k + 1) ws → Q (.str u) H'
theorem scOf : FnScope ["self", "words"] ["self", "words"] (defScope s_Line_one_of) := ⟨rfl, rfl, rfl, by decide +kernel, rfl, by decide +kernel, by decide +kernel⟩
theorem ok_of {f C CLi : Addr} {fd : FuncData} (F : Fun K "one_of" "Line.one_of" s_Line_one_of f fd) (T : Txt K mg C) (TL : TxtL K mg CLi) : FnOk P w K mg base CX0 1 f fd ["self", "words"] (spOf CLi) := by
  refine F.ok scOf (fun vs H Q E h => ?_) (fun cdv A outer s H vs Q E hr h => ?_)
  · obtain ⟨p, q, t, n, k, ws, os, u, rfl, _⟩ := h
    rfl
  · obtain ⟨p, q, t, n, j, ws, os, u, rfl, R, hu, ht, hm, k⟩ := h
    have hj := (List.getElem?_eq_some_iff.mp hu).1
    refine ⟨_, (pss_cons (ps_if (PW.pt (pw_or (pt_cmpR op_eq (pe_fld (pv 0) rfl) (pe_callB call_len_seq (by rfl) T.len (by decide +kernel) (pa_cons (pe_fld (pv 0) rfl) pa_nil)) (nomark _)) (pw_or1 (pt_cmpR (r := rIn K true) op_notIn_seq (pe_ix ix_list (pe_fld (pv 0) rfl) (pe_fld (pv 0) rfl) (fun _ _ => rfl)) (pv 1) (by rfl))))) (pss_one ps_never) pss_nil) (pss_cons (ps_fld (pv 0) (pe_op op_add (pe_fld (pv 0) rfl) pe_int) rfl) (pss_one (ps_ret (pe_ix ix_list (pe_fld (pv 0) rfl) (pe_op op_sub (pe_fld (pv 0) rfl) pe_int) (fun _ _ => rfl)))))), ?_⟩
    refine rlNe TL R rfl (by omega) ?_
    refine iteF ?_
    dsimp only [tTest]
    refine rlX TL R rfl hu ?_
    refine ⟨_, rfl, t, _, rfl, .inr (SqT.of ht), rfl, strs_flat os, _, rfl, ?_⟩
    rw [if_pos rfl, inV_str hm]
    refine iteF ?_
    refine rlStep TL R rfl (fun H' kx R' => ?_)
    exact rlP TL R' rfl hu (k H' kx R')
def spWh (C : Addr) : Sp := fun vs H Q _ => ∃ (p q : Addr) (n : Int) (k : Nat) (ws : List Str) (u : Str) (i : Int), vs = [.ref p] ∧ LnAt C H p q n k ws ∧ ws[k]? = some u ∧ isNum u = true ∧ intText? u = some i ∧ u.length ≤ 600 ∧
  ∀ H', Kx p H H' → LnAt C H' p q n (k + 1) ws → Q (.int i) H'
theorem scWh : FnScope ["self"] ["self"] (defScope s_Line_whole) := ⟨rfl, rfl, rfl, by decide +kernel, rfl, by decide +kernel, by decide +kernel⟩
theorem ok_wh {f C CLi fN : Addr} {fd fdN : FuncData} (F : Fun K "whole" "Line.whole" s_Line_whole f fd) (T : Txt K mg C) (TL : TxtL K mg CLi) (GN : FnOk P w K mg base CX0 1 fN fdN ["word"] spIsNum) (bN : Binds K fdN ["word"] []) (mN : mg "_is_number" = some (.ref fN)) (kN : PySem.W.keepIn K (.ref fN) = true) : FnOk P w K mg base CX0 2 f fd ["self"] (spWh CLi) := by
  refine F.ok scWh (fun vs H Q E h => ?_) (fun cdv A outer s H vs Q E hr h => ?_)
  · obtain ⟨p, q, n, k, ws, u, i, rfl, _⟩ := h
    rfl
  · obtain ⟨p, q, n, j, ws, u, i, rfl, R, hu, hn, hi, hul, k⟩ := h
    have hj := (List.getElem?_eq_some_iff.mp hu).1
    refine ⟨_, (pss_cons (ps_if (PW.pt (pw_or (pt_cmpR op_eq (pe_fld (pv 0) rfl) (pe_callB call_len_seq (by rfl) T.len (by decide +kernel) (pa_cons (pe_fld (pv 0) rfl) pa_nil)) (nomark _)) (pw_or1 (pt_not (pt_val (pe_call GN hr rfl mN kN bN .nil pass0 (pa_cons (pe_ix ix_list (pe_fld (pv 0) rfl) (pe_fld (pv 0) rfl) (fun _ _ => rfl)) pa_nil))))))) (pss_one ps_never) pss_nil) (pss_cons (ps_fld (pv 0) (pe_op op_add (pe_fld (pv 0) rfl) pe_int) rfl) (pss_one (ps_ret (pe_callTy call_int_str (by rfl) T.int (by decide +kernel) (pa_cons (pe_ix ix_list (pe_fld (pv 0) rfl) (pe_op op_sub (pe_fld (pv 0) rfl) pe_int) (fun _ _ => rfl)) pa_nil)))))), ?_⟩
    refine rlNe TL R rfl (by omega) ?_
    refine iteF ?_
    refine rlX TL R rfl hu ?_
    refine ⟨_, rfl, Nat.le_trans hul (by decide), fun H1 S1 => ?_⟩
    rw [hn]
    refine ⟨_, rfl, iteF ?_⟩
    have R1 := R.mono S1
    refine rlStep TL R1 rfl (fun H' kx R' => ?_)
    refine rlP TL R' rfl hu ?_
    exact ⟨_, _, rfl, hi, Nat.le_trans hul (by decide), k H' ((Kx.of S1).trans kx) R'⟩
end
end RS
namespace RS
open PySem L2
section
variable {P : Program} {w : World} {K : PySem.W.Frag} {mg : Str → Option Value} {base : Heap}
/-! ### wholes -/
def ReadsW (ws : List Str) (k : Nat) (is : List Int) : Prop := ∀ j i, is[j]? = some i → ∃ u, ws[k + j]? = some u ∧ isNum u = true ∧ intText? u = some i ∧ u.length ≤ 600
def StopW (ws : List Str) (k : Nat) : Prop := k = ws.length ∨ ∃ u, ws[k]? = some u ∧ isNum u = false
def spWs (C : Addr) : Sp := fun vs H Q _ => ∃ (p q : Addr) (n : Int) (k : Nat) (ws : List Str) (is : List Int), vs = [.ref p] ∧ LnAt C H p q n k ws ∧ ReadsW ws k is ∧ StopW ws (k + is.length) ∧ is.length ≤ 100000 ∧
  ∀ g H', H g = none → Kx p H H' → LnAt C H' p q n (k + is.length) ws → H' g = some (.lst (is.map V.int)) → Q (.ref g) H'
theorem scWs : FnScope ["self", "found"] ["self"] (defScope s_Line_wholes) := ⟨rfl, rfl, rfl, by decide +kernel, rfl, by decide +kernel, by decide +kernel⟩
theorem small5 {n : Nat} (h : n ≤ 100000) : n < sizeLine := Nat.lt_of_le_of_lt h (by decide)
theorem ok_ws {f C CLi fN fW : Addr} {fd fdN fdW : FuncData} (F : Fun K "wholes" "Line.wholes" s_Line_wholes f fd) (T : Txt K mg C) (TL : TxtL K mg CLi) (GN : FnOk P w K mg base CX0 1 fN fdN ["word"] spIsNum) (bN : Binds K fdN ["word"] []) (mN : mg "_is_number" = some (.ref fN)) (kN : PySem.W.keepIn K (.ref fN) = true)
    (GW : FnOk P w K mg base CX0 2 fW fdW ["self"] (spWh CLi)) (bW : Binds K fdW ["self"] []) (mW : Meth K CLi "whole" fW) : FnOk P w K mg base CX0 3 f fd ["self"] (spWs CLi) := by
  refine F.ok scWs (fun vs H Q E h => ?_) (fun cdv A outer s H vs Q E hr h => ?_)
  · obtain ⟨p, q, n, k, ws, is, rfl, _⟩ := h
    rfl
  · obtain ⟨p, q, n, j, ws, is, rfl, R, hR, hS, hl, k⟩ := h
    have hr1 := hr.mono (show 1 ≤ 2 by decide)
    refine ⟨_, (pss_cons (ps_set (i := 1) scWs.nd rfl (Or.inl rfl) (pe_lst pa_nil)) (pss_cons (ps_while PassesOwn.never (PW.pt (pw_and (pt_cmpR op_lt (pe_fld (pv 0) rfl) (pe_callB call_len_seq (by rfl) T.len (by decide +kernel) (pa_cons (pe_fld (pv 0) rfl) pa_nil)) (nomark _)) (pw_and1 (pt_val (pe_call GN hr1 rfl mN kN bN .nil pass0 (pa_cons (pe_ix ix_list (pe_fld (pv 0) rfl) (pe_fld (pv 0) rfl) (fun _ _ => rfl)) pa_nil)))))) (pss_one (ps_expr (pe_bm PySem.F.plainAttrs_list PySem.F.slot_list_append PySem.F.type_list_append mt_append (pv 1) (pa_cons (pe_meth0 (pv 0) TL.cl mW GW hr bW .nil pass0) pa_nil))))) (pss_one (ps_ret (pv 1))))), ?_⟩
    refine ⟨(by show 0 ≤ sizeLine; decide), fun g hg => ?_⟩
    have ng : p ≠ g := by
      obtain ⟨dx, e⟩ := R.ob
      exact ne_of_none e hg
    have S0 : Same H (upd H g (.lst [])) := same_new hg
    refine ⟨fun m σ H' => ∃ t, m = is.length - t ∧ t ≤ is.length ∧ σ = [some (.ref p), some (.ref g)] ∧ Kx p H H' ∧ LnAt CLi H' p q n (j + t) ws ∧ H' g = some (.lst ((is.take t).map V.int)), ⟨_, 0, rfl, Nat.zero_le _, rfl, Kx.of S0, R.mono S0, upd_same⟩, ?_⟩
    rintro m σ H1 ⟨t, rfl, ht, rfl, kx1, R1, hg1⟩
    refine rlLt TL R1 rfl ?_
    by_cases hlt : t < is.length
    · obtain ⟨u, hu, hn, hi, hul⟩ := hR t _ (List.getElem?_eq_getElem hlt)
      have hlen := (List.getElem?_eq_some_iff.mp hu).1
      refine iteTb (decide_eq_true hlen) ?_
      refine rlX TL R1 rfl hu ⟨_, rfl, Nat.le_trans hul (by decide), fun H2 S2 => ⟨_, rfl, ?_⟩⟩
      rw [hn]
      refine iteT ?_
      have R2 := R1.mono S2
      have hg2 := S2 _ _ hg1
      obtain ⟨dx, hob⟩ := R2.ob
      refine ⟨fun σ' H' => σ' = [some (.ref p), some (.ref g)] ∧ Kx p H H' ∧ LnAt CLi H' p q n (j + (t + 1)) ws ∧ H' g = some (.lst ((is.take (t + 1)).map V.int)), ?_, ?_⟩
      · rintro σ' H' ⟨rfl, z⟩
        exact ⟨is.length - (t + 1), by omega, t + 1, rfl, hlt, rfl, z⟩
      · refine ⟨_, rfl, .inl ⟨rfl, _, SqL.of hg2⟩, _, rfl, p, dx, _, rfl, hob, lfl_no _ _ _ (by decide +kernel) (by decide +kernel) (by decide +kernel), p, q, n, j + t, ws, u, is[t], rfl, R2, hu, hn, hi, hul, fun H3 kx3 R3 => ?_⟩
        have hg3 := kx3 _ _ ng.symm hg2
        refine ⟨g, _, _, rfl, rfl, hg3, ?_, rfl, ?_, ?_, ?_⟩
        · rw [List.length_map, List.length_take]
          exact small5 (by omega)
        · intro c o nc e
          have e1 := kx3 c o nc (S2 _ _ (kx1 c o nc e))
          rw [upd_ne (ne_of_none e hg)]
          exact e1
        · obtain ⟨dx3, hob3⟩ := R3.ob
          refine ⟨⟨dx3, by rw [upd_ne ng]; exact hob3⟩, ?_, R3.ok⟩
          rw [upd_ne (ne_of_none R.hq hg)]
          exact R3.hq
        · rw [upd_same, List.take_add_one, List.getElem?_eq_getElem hlt, List.map_append]
          rfl
    · have e : t = is.length := by omega
      subst e
      rw [List.take_length] at hg1
      rcases hS with hS | ⟨u, hu, hn⟩
      · refine iteFb (decide_eq_false (by omega)) ?_
        exact iteF ⟨_, rfl, k g H1 hg kx1 R1 hg1⟩
      · have hlen := (List.getElem?_eq_some_iff.mp hu).1
        refine iteTb (decide_eq_true hlen) ?_
        refine rlX TL R1 rfl hu ⟨_, rfl, R1.ok.2 u (List.mem_of_getElem? hu), fun H2 S2 => ⟨_, rfl, ?_⟩⟩
        rw [hn]
        exact iteF ⟨_, rfl, k g H2 hg (kx1.trans (Kx.of S2)) (R1.mono S2) (S2 _ _ hg1)⟩
/-! ### finish -/
def spFi (C : Addr) : Sp := fun vs H Q _ => ∃ (p q : Addr) (n : Int) (k : Nat) (ws : List Str), vs = [.ref p] ∧ LnAt C H p q n k ws ∧ ws.length ≤ k ∧ Q .non H
theorem scFi : FnScope ["self"] ["self"] (defScope s_Line_finish) := ⟨rfl, rfl, rfl, by decide +kernel, rfl, by decide +kernel, by decide +kernel⟩
theorem ok_fi {f C CLi : Addr} {fd : FuncData} (F : Fun K "finish" "Line.finish" s_Line_finish f fd) (T : Txt K mg C) (TL : TxtL K mg CLi) : FnOk P w K mg base CX0 1 f fd ["self"] (spFi CLi) := by
  refine F.ok scFi (fun vs H Q E h => ?_) (fun cdv A outer s H vs Q E hr h => ?_)
  · obtain ⟨p, q, n, k, ws, rfl, _⟩ := h
    rfl
  · obtain ⟨p, q, n, j, ws, rfl, R, hl, k⟩ := h
    refine ⟨_, (pss_one (ps_if (pt_cmpR op_lt (pe_fld (pv 0) rfl) (pe_callB call_len_seq (by rfl) T.len (by decide +kernel) (pa_cons (pe_fld (pv 0) rfl) pa_nil)) (nomark _)) (pss_one ps_never) pss_nil)), ?_⟩
    exact rlLt TL R rfl (iteFb (decide_eq_false (by omega)) k)
end
end RS
namespace RS
open PySem L2
section
variable {P : Program} {w : World} {K : PySem.W.Frag} {mg : Str → Option Value} {base : Heap}
/-! ### pairs -/
/-- tuples of two numbers -/
def TupsI (H : Hp) (rs : List Addr) (ps : List (Int × Int)) : Prop := rs.length = ps.length ∧ ∀ (j : Nat) (p : Int × Int), ps[j]? = some p → ∃ r, rs[j]? = some r ∧ H r = some (.tup [.int p.1, .int p.2])
theorem TupsI.kx {H H' : Hp} {rs : List Addr} {ps : List (Int × Int)} (t : TupsI H rs ps) (h : ∀ (r : Addr) (xs : List V), H r = some (.tup xs) → H' r = some (.tup xs)) : TupsI H' rs ps :=
  ⟨t.1, fun j p e => let ⟨r, a, b⟩ := t.2 j p e; ⟨r, a, h _ _ b⟩⟩
theorem TupsI.snoc {H : Hp} {rs : List Addr} {ps : List (Int × Int)} {r : Addr} {a b : Int} (t : TupsI H rs ps) (h : H r = some (.tup [.int a, .int b])) : TupsI H (rs ++ [r]) (ps ++ [(a, b)]) := by
  refine ⟨by rw [List.length_append, List.length_append, t.1]; rfl, fun j p e => ?_⟩
  by_cases hj : j < ps.length
  · rw [List.getElem?_append_left hj] at e
    obtain ⟨r', e1, e2⟩ := t.2 j p e
    exact ⟨r', by rw [List.getElem?_append_left (by rw [t.1]; exact hj)]; exact e1, e2⟩
  · have hl := (List.getElem?_eq_some_iff.mp e).1
    rw [List.length_append, List.length_singleton] at hl
    have ej : j = ps.length := by omega
    subst ej
    rw [List.getElem?_append_right (Nat.le_refl _), Nat.sub_self] at e
    cases e
    exact ⟨r, by rw [← t.1, List.getElem?_append_right (Nat.le_refl _), Nat.sub_self]; rfl, h⟩
theorem TupsI.nil {H : Hp} : TupsI H [] [] := ⟨rfl, fun _ _ e => nomatch e⟩
/-- the two numbers of a word -/
structure PairW (u mk : Str) (p : Int × Int) : Prop where
  is : isPair u mk = true
  fst : intText? (Txt.partition u mk).1 = some p.1
  snd : intText? (Txt.partition u mk).2.2 = some p.2
  len : u.length ≤ 600
def ReadsP (ws : List Str) (mk : Str) (k : Nat) (ps : List (Int × Int)) : Prop := ∀ (j : Nat) (p : Int × Int), ps[j]? = some p → ∃ u, ws[k + j]? = some u ∧ PairW u mk p
def StopP (ws : List Str) (mk : Str) (k : Nat) : Prop := k = ws.length ∨ ∃ u, ws[k]? = some u ∧ isPair u mk = false
def spPs (C : Addr) : Sp := fun vs H Q _ => ∃ (p q : Addr) (n : Int) (k : Nat) (ws : List Str) (mk : Str) (ps : List (Int × Int)), vs = [.ref p, .str mk] ∧ LnAt C H p q n k ws ∧ (mk.length == 0) = false ∧ ReadsP ws mk k ps ∧ StopP ws mk (k + ps.length) ∧ ps.length ≤ 100000 ∧
  ∀ g rs H', H g = none → (∀ r ∈ rs, H r = none) → Kx p H H' → LnAt C H' p q n (k + ps.length) ws → H' g = some (.lst (rs.map V.ref)) → TupsI H' rs ps → Q (.ref g) H'
def prN : List Str := ["self", "mark", "found", "first", "_", "second"]
theorem scPr : FnScope prN ["self", "mark"] (defScope s_Line_pairs) := ⟨rfl, rfl, rfl, by decide +kernel, rfl, by decide +kernel, by decide +kernel⟩
theorem ok_ps {f C CLi fP : Addr} {fd fdP : FuncData} (F : Fun K "pairs" "Line.pairs" s_Line_pairs f fd) (T : Txt K mg C) (TL : TxtL K mg CLi) (GP : FnOk P w K mg base CX0 2 fP fdP ["word", "mark"] spIsPair) (bP : Binds K fdP ["word", "mark"] []) (mP : mg "_is_pair" = some (.ref fP)) (kP : PySem.W.keepIn K (.ref fP) = true) : FnOk P w K mg base CX0 3 f fd ["self", "mark"] (spPs CLi) := by
  refine F.ok scPr (fun vs H Q E h => ?_) (fun cdv A outer s H vs Q E hr h => ?_)
  · obtain ⟨p, q, n, k, ws, mk, ps, rfl, _⟩ := h
    rfl
  · obtain ⟨p, q, n, j, ws, mk, ps, rfl, R, hmk, hR, hS, hl, k⟩ := h
    refine ⟨_, (pss_cons (ps_set (i := 2) scPr.nd rfl (Or.inl rfl) (pe_lst pa_nil)) (pss_cons (ps_while PassesOwn.never (PW.pt (pw_and (pt_cmpR op_lt (pe_fld (pv 0) rfl) (pe_callB call_len_seq (by rfl) T.len (by decide +kernel) (pa_cons (pe_fld (pv 0) rfl) pa_nil)) (nomark _)) (pw_and1 (pt_val (pe_call GP hr rfl mP kP bP .nil pass0 (pa_cons (pe_ix ix_list (pe_fld (pv 0) rfl) (pe_fld (pv 0) rfl) (fun _ _ => rfl)) (pa_cons (pv 1) pa_nil)))))))
      (pss_cons (ps_asg (pe_partition (pe_ix ix_list (pe_fld (pv 0) rfl) (pe_fld (pv 0) rfl) (fun _ _ => rfl)) (pv 1)) (pg_tup rfl (pgs_cons (pg_name (i := 3) scPr.nd rfl (Or.inl rfl)) (pgs_cons (pg_name (i := 4) scPr.nd rfl (Or.inl rfl)) (pgs_cons (pg_name (i := 5) scPr.nd rfl (Or.inl rfl)) pgs_nil))))) (pss_cons (ps_expr (pe_bm PySem.F.plainAttrs_list PySem.F.slot_list_append PySem.F.type_list_append mt_append (pv 2) (pa_cons (pe_tup (pa_cons (pe_callTy call_int_str (by rfl) T.int (by decide +kernel) (pa_cons (pv 3) pa_nil)) (pa_cons (pe_callTy call_int_str (by rfl) T.int (by decide +kernel) (pa_cons (pv 5) pa_nil)) pa_nil))) pa_nil))) (pss_one (ps_fld (pv 0) (pe_op op_add (pe_fld (pv 0) rfl) pe_int) rfl))))) (pss_one (ps_ret (pv 2))))), ?_⟩
    refine ⟨(by show 0 ≤ sizeLine; decide), fun g hg => ?_⟩
    have ng : p ≠ g := by
      obtain ⟨dx, e⟩ := R.ob
      exact ne_of_none e hg
    have S0 : Same H (upd H g (.lst [])) := same_new hg
    refine ⟨fun m σ H' => ∃ t v3 v4 v5 rs, m = ps.length - t ∧ t ≤ ps.length ∧ σ = [some (.ref p), some (.str mk), some (.ref g), v3, v4, v5] ∧ Kx p H H' ∧ LnAt CLi H' p q n (j + t) ws ∧ H' g = some (.lst (rs.map V.ref)) ∧ TupsI H' rs (ps.take t) ∧ ∀ r ∈ rs, H r = none, ⟨_, 0, _, _, _, [], rfl, Nat.zero_le _, rfl, Kx.of S0, R.mono S0, upd_same, TupsI.nil, fun r hr => nomatch hr⟩, ?_⟩
    rintro m σ H1 ⟨t, v3, v4, v5, rs, rfl, ht, rfl, kx1, R1, hg1, T1, hrs⟩
    have hrl : rs.length = t := by rw [T1.1, List.length_take]; omega
    refine rlLt TL R1 rfl ?_
    by_cases hlt : t < ps.length
    · obtain ⟨u, hu, hp⟩ := hR t _ (List.getElem?_eq_getElem hlt)
      have hlen := (List.getElem?_eq_some_iff.mp hu).1
      have hul := hp.len
      have hpl := part_len u mk
      refine iteTb (decide_eq_true hlen) ?_
      refine rlX TL R1 rfl hu ⟨_, rfl, u, mk, rfl, hmk, Nat.le_trans hul (by decide), fun H2 S2 => ⟨_, rfl, ?_⟩⟩
      rw [hp.is]
      refine iteT ?_
      have R2 := R1.mono S2
      have hg2 := S2 _ _ hg1
      refine ⟨fun σ' H' => ∃ v3 v4 v5 rs', σ' = [some (.ref p), some (.str mk), some (.ref g), v3, v4, v5] ∧ Kx p H H' ∧ LnAt CLi H' p q n (j + (t + 1)) ws ∧ H' g = some (.lst (rs'.map V.ref)) ∧ TupsI H' rs' (ps.take (t + 1)) ∧ ∀ r ∈ rs', H r = none, ?_, ?_⟩
      · rintro σ' H' ⟨v3, v4, v5, rs', rfl, z⟩
        exact ⟨ps.length - (t + 1), by omega, t + 1, _, _, _, rs', rfl, hlt, rfl, z⟩
      · refine rlX TL R2 rfl hu ⟨⟨_, rfl⟩, _, rfl, _, _, rfl, rfl, hmk, Nat.le_trans hul (by decide), fun b hb => ?_⟩
        have S3 := same_new (o := .tup [.str (Txt.partition u mk).1, .str (Txt.partition u mk).2.1, .str (Txt.partition u mk).2.2]) hb
        refine ⟨b, _, rfl, SqT.of upd_same, rfl, _, _, rfl, _, _, rfl, _, _, rfl, rfl, ?_⟩
        generalize upd H2 b (.tup [.str (Txt.partition u mk).1, .str (Txt.partition u mk).2.1, .str (Txt.partition u mk).2.2]) = H3 at S3
        have R3 := R2.mono S3
        have hg3 := S3 _ _ hg2
        refine ⟨_, rfl, .inl ⟨rfl, _, SqL.of hg3⟩, _, rfl, _, _, rfl, hp.fst, by omega, _, rfl, _, _, rfl, hp.snd, by omega, (by show 2 ≤ sizeLine; decide), fun c hc => ?_⟩
        have S4 : Same H3 (upd H3 c (.tup [.int ps[t].1, .int ps[t].2])) := same_new hc
        have S14 : Same H1 (upd H3 c (.tup [.int ps[t].1, .int ps[t].2])) := (S2.trans S3).trans S4
        have hcH : H c = none := by
          have npc : p ≠ c := by
            obtain ⟨dx, e⟩ := R3.ob
            exact ne_of_none e hc
          exact kx1.free npc.symm ((S2.trans S3).free hc)
        refine ⟨g, _, _, rfl, rfl, S4 _ _ hg3, ?_, ?_⟩
        · rw [List.length_map, hrl]
          exact small5 (by omega)
        have hc4 : (upd H3 c (.tup [.int ps[t].1, .int ps[t].2])) c = some (.tup [.int ps[t].1, .int ps[t].2]) := upd_same
        have hg4 := S4 _ _ hg3
        generalize upd H3 c (.tup [.int ps[t].1, .int ps[t].2]) = H4 at S4 S14 hc4 hg4
        have R4 := R3.mono S4
        have ncg : c ≠ g := ne_of hc4 hg4 (by intro z; cases z)
        have R5 : LnAt CLi (upd H4 g (.lst (rs.map V.ref ++ [V.ref c]))) p q n (j + t) ws := by
          obtain ⟨dx, e⟩ := R4.ob
          exact ⟨⟨dx, by rw [upd_ne ng]; exact e⟩, by rw [upd_ne (ne_of_none R.hq hg)]; exact R4.hq, R4.ok⟩
        refine rlStep TL R5 rfl (fun H6 kx6 R6 => ?_)
        obtain ⟨dx5, hob5⟩ := R5.ob
        refine ⟨_, _, _, rs ++ [c], rfl, fun a o na e => ?_, R6, ?_, ?_, ?_⟩
        · refine kx6 a o na ?_
          rw [upd_ne (ne_of_none e hg)]
          exact S14 _ _ (kx1 a o na e)
        · rw [List.map_append]
          exact kx6 _ _ ng.symm upd_same
        · rw [List.take_add_one, List.getElem?_eq_getElem hlt]
          refine (T1.kx (H' := H6) fun r xs e => ?_).snoc ?_
          · have ner : r ≠ g := ne_of e hg1 (by intro z; cases z)
            have e4 := S14 _ _ e
            refine kx6 r _ (ne_of (H := upd H4 g (.lst (rs.map V.ref ++ [V.ref c]))) (by rw [upd_ne ner]; exact e4) hob5 (by intro z; cases z)) ?_
            rw [upd_ne ner]
            exact e4
          · refine kx6 c _ (ne_of (H := upd H4 g (.lst (rs.map V.ref ++ [V.ref c]))) (by rw [upd_ne ncg]; exact hc4) hob5 (by intro z; cases z)) ?_
            rw [upd_ne ncg]
            exact hc4
        · intro r hr
          rcases List.mem_append.mp hr with hr | hr
          · exact hrs r hr
          · rw [List.mem_singleton.mp hr]
            exact hcH
    · have e : t = ps.length := by omega
      subst e
      rw [List.take_length] at T1
      rcases hS with hS | ⟨u, hu, hn⟩
      · refine iteFb (decide_eq_false (by omega)) ?_
        exact iteF ⟨_, rfl, k g rs H1 hg hrs kx1 R1 hg1 T1⟩
      · have hlen := (List.getElem?_eq_some_iff.mp hu).1
        refine iteTb (decide_eq_true hlen) ?_
        refine rlX TL R1 rfl hu ⟨_, rfl, u, mk, rfl, hmk, R1.ok.2 u (List.mem_of_getElem? hu), fun H2 S2 => ⟨_, rfl, ?_⟩⟩
        rw [hn]
        exact iteF ⟨_, rfl, k g rs H2 hg hrs (kx1.trans (Kx.of S2)) (R1.mono S2) (S2 _ _ hg1) (T1.kx fun r xs e => S2 _ _ e)⟩
end
end RS
namespace RS
open PySem L2
/-! ### words put together and taken apart -/
theorem tl_space : TL.tl (" " : Str) = 32 :: [] := by decide +kernel
theorem tl_nl : TL.tl ("\n" : Str) = 10 :: [] := by decide +kernel
theorem tl_colon : TL.tl (":" : Str) = 58 :: [] := by decide +kernel
theorem join_eq (s : Str) (ws : List Str) : Txt.join s ws = s.join ws := StrLaws.glued_eq_join s ws
structure WordOk (u : Str) : Prop where
  lo : 1 ≤ u.length
  hi : u.length ≤ 100
  fr : ∀ c ∈ TL.tl u, c ≠ 32 ∧ c ≠ 10
theorem joinL_cons (S p q : List Nat) (r : List (List Nat)) : TL.joinL S (p :: q :: r) = p ++ S ++ TL.joinL S (q :: r) := by
  first
    | rfl
    | (show p ++ (S ++ TL.joinL S (q :: r)) = _; rw [List.append_assoc])
theorem joinL_free {c : Nat} {S : List Nat} (hS : c ∉ S) : ∀ parts : List (List Nat), (∀ p ∈ parts, c ∉ p) → c ∉ TL.joinL S parts
  | [], _ => fun h => nomatch (show c ∈ ([] : List Nat) from h)
  | [p], h => h p (List.mem_singleton.mpr rfl)
  | p :: q :: r, h => by
    have ih := joinL_free hS (q :: r) (fun x hx => h x (List.mem_cons_of_mem _ hx))
    rw [joinL_cons, List.mem_append, List.mem_append]
    rintro ((z | z) | z)
    · exact h p (List.mem_cons_self ..) z
    · exact hS z
    · exact ih z
theorem joinL_len (S p : List Nat) : ∀ r : List (List Nat), p.length ≤ (TL.joinL S (p :: r)).length
  | [] => Nat.le_refl _
  | q :: r => by
    rw [joinL_cons, List.length_append, List.length_append]
    omega
theorem join_free {c : Nat} {ws : List Str} (hc : c ≠ 32) (h : ∀ u ∈ ws, c ∉ TL.tl u) : c ∉ TL.tl (Txt.join " " ws) := by
  rw [join_eq, TL.tl_join, tl_space]
  refine joinL_free (fun z => hc (List.mem_singleton.mp z)) _ fun p hp => ?_
  obtain ⟨u, hu, rfl⟩ := List.mem_map.mp hp
  exact h u hu
theorem lines_one {x : Str} (h : 10 ∉ TL.tl x) : Txt.split x "\n" = [x] := by
  have e : Txt.join "\n" [x] = x := rfl
  have := TL.split_join tl_nl (by decide +kernel) (parts := [x]) (fun z => nomatch z) (fun p hp => by rw [List.mem_singleton.mp hp]; exact h)
  rwa [e] at this
theorem words_join {ws : List Str} (hw : ∀ u ∈ ws, WordOk u) : wordsOf (Txt.join " " ws) = ws := by
  cases ws with
  | nil => rfl
  | cons u r =>
    unfold wordsOf
    have h1 := (hw u (List.mem_cons_self ..)).lo
    have hl : (Txt.join " " (u :: r)).length ≠ 0 := by
      have e : (Txt.join " " (u :: r)).length = (TL.tl (Txt.join " " (u :: r))).length := str_len _
      have e2 : u.length = (TL.tl u).length := str_len _
      rw [e, join_eq, TL.tl_join, List.map_cons]
      have := joinL_len (TL.tl " ") (TL.tl u) (r.map TL.tl)
      omega
    rw [if_neg hl]
    exact TL.split_join tl_space (by decide +kernel) (fun z => nomatch z) fun p hp z => ((hw p hp).fr 32 z).1 rfl
theorem sum_len {ws : List Str} {B : Nat} : (∀ u ∈ ws, u.length ≤ B) → (ws.map (·.length)).sum ≤ ws.length * B := by
  induction ws with
  | nil => exact fun _ => Nat.zero_le _
  | cons u r ih =>
    intro h
    have h1 := h u (List.mem_cons_self ..)
    have h2 := ih fun x hx => h x (List.mem_cons_of_mem _ hx)
    rw [List.map_cons, List.sum_cons, List.length_cons, Nat.add_mul]
    omega
theorem join_fit {ws : List Str} {n : Nat} (hl : ws.length ≤ n) (hw : ∀ u ∈ ws, WordOk u) : (ws.map (·.length)).sum + ws.length * (" " : Str).length ≤ n * 101 := by
  have h1 := sum_len (ws := ws) (B := 100) fun u hu => (hw u hu).hi
  have h2 : (" " : Str).length = 1 := by decide +kernel
  rw [h2]
  omega
theorem join_len {ws : List Str} {n : Nat} (hl : ws.length ≤ n) (hw : ∀ u ∈ ws, WordOk u) : (Txt.join " " ws).length ≤ n * 101 :=
  Nat.le_trans (by rw [join_eq]; exact StrLaws.join_length_le _ _) (join_fit hl hw)
theorem numS_ok {i : Int} (h : Num30 i) : WordOk (numS i) := by
  have hl := numS_len h
  refine ⟨hl.1, by omega, fun c hc => ⟨?_, ?_⟩⟩
  · rintro rfl
    exact numS_free (by omega) hc
  · rintro rfl
    exact numS_free (by omega) hc
/-! ### the words of a rule -/
def tlW : Tl → List Str
  | .fin => ["end"]
  | .times b => ["times", numS b]
  | .rep m => ["repeat", numS (m : Int)]
def ruleW (gs : List Int) (tl : Tl) : List Str := gs.map numS ++ tlW tl
def ruleS (gs : List Int) (tl : Tl) : Str := Txt.join " " (ruleW gs tl)
theorem wEndOk : WordOk "end" := ⟨by decide +kernel, by decide +kernel, by decide +kernel⟩
theorem wTimesOk : WordOk "times" := ⟨by decide +kernel, by decide +kernel, by decide +kernel⟩
theorem wRepeatOk : WordOk "repeat" := ⟨by decide +kernel, by decide +kernel, by decide +kernel⟩
theorem num_gap {gs : List Int} (okG : GapsOk gs) {g : Int} (h : g ∈ gs) : Num30 g := by
  have := okG.2 g h
  unfold Num30
  omega
theorem tlW_ok {n : Nat} {tl : Tl} (hn : n ≤ 20) (okT : TlOk n tl) : ∀ u ∈ tlW tl, WordOk u := by
  cases tl with
  | fin => intro u hu; rw [List.mem_singleton.mp hu]; exact wEndOk
  | times b =>
    have hb : Num30 b := by have := okT.2; unfold Num30; omega
    intro u hu
    rcases List.mem_cons.mp hu with rfl | hu
    · exact wTimesOk
    · rw [List.mem_singleton.mp hu]
      exact numS_ok hb
  | rep m =>
    have hb : Num30 (m : Int) := by have := okT.2; unfold Num30; omega
    intro u hu
    rcases List.mem_cons.mp hu with rfl | hu
    · exact wRepeatOk
    · rw [List.mem_singleton.mp hu]
      exact numS_ok hb
theorem tlW_len (tl : Tl) : (tlW tl).length ≤ 2 := by
  cases tl with
  | fin => show 1 ≤ 2; decide
  | times b => show 2 ≤ 2; decide
  | rep m => show 2 ≤ 2; decide
theorem ruleW_ok {gs : List Int} {tl : Tl} (okG : GapsOk gs) (okT : TlOk gs.length tl) : (ruleW gs tl).length ≤ 22 ∧ ∀ u ∈ ruleW gs tl, WordOk u := by
  have h1 := okG.1
  have h2 := tlW_len tl
  unfold ruleW
  refine ⟨by rw [List.length_append, List.length_map]; omega, fun u hu => ?_⟩
  rcases List.mem_append.mp hu with hu | hu
  · obtain ⟨g, hg, rfl⟩ := List.mem_map.mp hu
    exact numS_ok (num_gap okG hg)
  · exact tlW_ok h1 okT u hu
theorem word_stop (tl : Tl) : isNum tl.word = false := by
  cases tl with
  | fin => show isNum "end" = false; decide +kernel
  | times b => show isNum "times" = false; decide +kernel
  | rep m => show isNum "repeat" = false; decide +kernel
theorem tlW_head (tl : Tl) : (tlW tl)[0]? = some tl.word := by cases tl <;> rfl
theorem ruleW_word (gs : List Int) (tl : Tl) : (ruleW gs tl)[gs.length]? = some tl.word := by
  unfold ruleW
  rw [List.getElem?_append_right (by rw [List.length_map]; exact Nat.le_refl _), List.length_map, Nat.sub_self]
  exact tlW_head tl
theorem ruleW_reads {gs : List Int} {tl : Tl} (okG : GapsOk gs) : ReadsW (ruleW gs tl) 0 gs := fun j i e => by
  have hj := (List.getElem?_eq_some_iff.mp e).1
  have hn := num_gap okG (List.mem_of_getElem? e)
  have hl := numS_len hn
  refine ⟨numS i, ?_, isNum_numS hn, numS_int hn, by omega⟩
  unfold ruleW
  rw [Nat.zero_add, List.getElem?_append_left (by rw [List.length_map]; exact hj), List.getElem?_map, e]
  rfl
/-! ### the words of a log -/
def pairS (p : Int × Int) : Str := numS p.1 ++ ":" ++ numS p.2
def NumP (p : Int × Int) : Prop := Num30 p.1 ∧ Num30 p.2
theorem pairS_part (p : Int × Int) : Txt.partition (pairS p) ":" = (numS p.1, (":" : Str), numS p.2) :=
  TL.partition_app tl_colon (numS_free (by omega))
theorem pairS_w {p : Int × Int} (h : NumP p) : PairW (pairS p) ":" p ∧ WordOk (pairS p) := by
  have h1 := numS_len h.1
  have h2 := numS_len h.2
  have hl : (pairS p).length = (numS p.1).length + 1 + (numS p.2).length := by
    unfold pairS
    rw [app_len, app_len]
    rfl
  refine ⟨⟨?_, ?_, ?_, by omega⟩, ⟨by omega, by omega, fun c hc => ?_⟩⟩
  · unfold isPair
    rw [pairS_part]
    show (decide ((":" : Str) = ":") && isNum (numS p.1) && isNum (numS p.2)) = true
    rw [isNum_numS h.1, isNum_numS h.2, decide_eq_true rfl]
    rfl
  · rw [pairS_part]
    exact numS_int h.1
  · rw [pairS_part]
    exact numS_int h.2
  · unfold pairS at hc
    rw [TL.tl_append, TL.tl_append, tl_colon, List.mem_append, List.mem_append] at hc
    have hn := fun i : Int => @numS_free i
    rcases hc with (hc | hc) | hc
    · exact ⟨fun e => hn _ (s := 32) (by omega) (e ▸ hc), fun e => hn _ (s := 10) (by omega) (e ▸ hc)⟩
    · rw [List.mem_singleton.mp hc]
      exact ⟨by decide, by decide⟩
    · exact ⟨fun e => hn _ (s := 32) (by omega) (e ▸ hc), fun e => hn _ (s := 10) (by omega) (e ▸ hc)⟩
def logS (ps : List (Int × Int)) : Str := Txt.join " " (ps.map pairS)
theorem logW_ok {ps : List (Int × Int)} (h : ∀ p ∈ ps, NumP p) : ∀ u ∈ ps.map pairS, WordOk u := fun u hu => by
  obtain ⟨p, hp, rfl⟩ := List.mem_map.mp hu
  exact (pairS_w (h p hp)).2
theorem logW_reads {ps : List (Int × Int)} (h : ∀ p ∈ ps, NumP p) : ReadsP (ps.map pairS) ":" 0 ps := fun j p e => by
  refine ⟨pairS p, ?_, (pairS_w (h p (List.mem_of_getElem? e))).1⟩
  rw [Nat.zero_add, List.getElem?_map, e]
  rfl
end RS
namespace RS
open PySem L2
section
variable {P : Program} {w : World} {K : PySem.W.Frag} {mg : Str → Option Value} {base : Heap}
/-! ### Rule.gaps, tail, least_gap -/
def spGaps (C : Addr) : Sp := fun vs H Q _ => ∃ (p g t o : Addr) (gs : List Int) (tl : Tl), vs = [.ref p] ∧ RuleAt C H p g t o gs tl ∧ ∀ l, H l = none → Q (.ref l) (upd H l (.lst (gs.map V.int)))
theorem scGaps : FnScope ["self"] ["self"] (defScope s_Rule_gaps) := ⟨rfl, rfl, rfl, by decide +kernel, rfl, by decide +kernel, by decide +kernel⟩
theorem ok_gaps {f C : Addr} {fd : FuncData} (F : Fun K "gaps" "Rule.gaps" s_Rule_gaps f fd) (T : Txt K mg C) : FnOk P w K mg base CX0 1 f fd ["self"] (spGaps C) := by
  refine F.ok scGaps (fun vs H Q E h => ?_) (fun cdv A outer s H vs Q E hr h => ?_)
  · obtain ⟨p, g, t, o, gs, tl, rfl, _⟩ := h
    rfl
  · obtain ⟨p, g, t, o, gs, tl, rfl, R, k⟩ := h
    refine ⟨_, (pss_one (ps_ret (pe_callTy call_list_of (by rfl) T.list (by decide +kernel) (pa_cons (pe_fld (pv 0) rfl) pa_nil)))), ?_⟩
    exact rdG T R rfl ⟨g, _, rfl, .inl (SqL.of R.hg), k⟩
def spTail (C : Addr) : Sp := fun vs H Q _ => ∃ (p g t o : Addr) (gs : List Int) (tl : Tl), vs = [.ref p] ∧ RuleAt C H p g t o gs tl ∧ Q (.ref t) H
theorem scTail : FnScope ["self"] ["self"] (defScope s_Rule_tail) := ⟨rfl, rfl, rfl, by decide +kernel, rfl, by decide +kernel, by decide +kernel⟩
theorem ok_tail {f C : Addr} {fd : FuncData} (F : Fun K "tail" "Rule.tail" s_Rule_tail f fd) (T : Txt K mg C) : FnOk P w K mg base CX0 1 f fd ["self"] (spTail C) := by
  refine F.ok scTail (fun vs H Q E h => ?_) (fun cdv A outer s H vs Q E hr h => ?_)
  · obtain ⟨p, g, t, o, gs, tl, rfl, _⟩ := h
    rfl
  · obtain ⟨p, g, t, o, gs, tl, rfl, R, k⟩ := h
    refine ⟨_, (pss_one (ps_ret (pe_fld (pv 0) rfl))), ?_⟩
    exact rdT T R rfl k
end
end RS
namespace RS
open PySem L2
section
variable {P : Program} {w : World} {K : PySem.W.Frag} {mg : Str → Option Value} {base : Heap}
/-! ### _joined -/
theorem num_log {i : Int} (h : Num30 i) : i.natAbs.log2 < 1920 := by
  unfold Num30 at h
  by_cases h0 : i.natAbs = 0
  · rw [h0]
    decide
  · have h1 : i.natAbs < 2 ^ 100 := by
      have : (10 : Nat) ^ 30 < 2 ^ 100 := by decide
      omega
    have := (Nat.log2_lt h0).mpr h1
    omega
section
variable {X : Cx}
theorem call_str_any : CallR X (.type "str") (fun xs H Q => (∃ i, xs = [.int i] ∧ i.natAbs.log2 < 1920 ∧ Q (.str (toString i)) H) ∨ ∃ a, xs = [.str a] ∧ Q (.str a) H) :=
  fun pins s σ H xs us Q I r h => h.elim (fun h => call_str_int pins s σ H xs us Q I r h) (fun h => SkE.call_str_str pins s σ H xs us Q I r h)
end
/-- a text, or the number that it is the text of -/
def StrOf (x : V) (u : Str) : Prop := (∃ i, x = .int i ∧ Num30 i ∧ u = numS i) ∨ x = .str u
def StrsOf (xs : List V) (ws : List Str) : Prop := xs.length = ws.length ∧ ∀ (j : Nat) (x : V) (u : Str), xs[j]? = some x → ws[j]? = some u → StrOf x u
theorem StrsOf.nums {is : List Int} (h : ∀ i ∈ is, Num30 i) : StrsOf (is.map V.int) (is.map numS) := by
  refine ⟨by rw [List.length_map, List.length_map], fun j x u hx hu => ?_⟩
  rw [List.getElem?_map] at hx hu
  cases e : is[j]? with
  | none => rw [e] at hx; cases hx
  | some i =>
    rw [e] at hx hu
    cases hx
    cases hu
    exact .inl ⟨i, rfl, h i (List.mem_of_getElem? e), rfl⟩
theorem StrsOf.app {xs ys : List V} {ws zs : List Str} (a : StrsOf xs ws) (b : StrsOf ys zs) : StrsOf (xs ++ ys) (ws ++ zs) := by
  refine ⟨by rw [List.length_append, List.length_append, a.1, b.1], fun j x u hx hu => ?_⟩
  by_cases hj : j < xs.length
  · rw [List.getElem?_append_left hj] at hx
    rw [List.getElem?_append_left (by rw [← a.1]; exact hj)] at hu
    exact a.2 j x u hx hu
  · rw [List.getElem?_append_right (by omega)] at hx
    rw [List.getElem?_append_right (by rw [← a.1]; omega), ← a.1] at hu
    exact b.2 _ x u hx hu
theorem StrsOf.strs (ws : List Str) : StrsOf (ws.map V.str) ws := by
  refine ⟨by rw [List.length_map], fun j x u hx hu => ?_⟩
  rw [List.getElem?_map, hu] at hx
  exact .inr (Option.some.inj hx).symm
theorem StrsOf.tl {n : Nat} {tl : Tl} (hn : n ≤ 20) (okT : TlOk n tl) : StrsOf tl.vs (tlW tl) := by
  cases tl with
  | fin => exact StrsOf.strs ["end"]
  | times b => exact (StrsOf.strs ["times"]).app (StrsOf.nums (is := [b]) (fun i hi => by rw [List.mem_singleton.mp hi]; have := okT.2; unfold Num30; omega))
  | rep m => exact (StrsOf.strs ["repeat"]).app (StrsOf.nums (is := [(m : Int)]) (fun i hi => by rw [List.mem_singleton.mp hi]; have := okT.2; unfold Num30; omega))
def spJo : Sp := fun vs H Q _ => ∃ (a : Addr) (xs : List V) (ws : List Str), vs = [.ref a] ∧ H a = some (.lst xs) ∧ StrsOf xs ws ∧ ws.length ≤ 1000 ∧ (∀ u ∈ ws, WordOk u) ∧ ∀ H', Same H H' → Q (.str (Txt.join " " ws)) H'
def joN : List Str := ["words", "word"]
theorem scJo : FnScope joN ["words"] (defScope s_joined) := ⟨rfl, rfl, rfl, by decide +kernel, rfl, by decide +kernel, by decide +kernel⟩
theorem ok_jo {f C : Addr} {fd : FuncData} (F : Fun K "_joined" "_joined" s_joined f fd) (T : Txt K mg C) : FnOk P w K mg base CX0 1 f fd ["words"] spJo := by
  refine F.ok scJo (fun vs H Q E h => ?_) (fun cdv A outer s H vs Q E hr h => ?_)
  · obtain ⟨a, xs, ws, rfl, _⟩ := h
    rfl
  · obtain ⟨a, xs, ws, rfl, ha, hx, hl, hw, k⟩ := h
    refine ⟨_, (pss_one (ps_ret (pe_join pe_str (pe_lc (own := [("word", 1)]) (g := gName 1) (tt := tYes) rfl scJo.nd (pi_list (pv 0)) (blkOk_by (own := [("word", 1)]) (N := joN) (sc := (defScope s_joined)) (by decide +kernel)) (fun _ _ _ _ _ => (pg_name (i := 1) scJo.nd rfl (Or.inl rfl))) (fun _ _ _ _ _ => pts_nil) (fun _ _ _ _ _ => (pe_callTy call_str_any (by rfl) T.str (by decide +kernel) (pa_cons (pv 1) pa_nil))))))), ?_⟩
    refine ⟨⟨_, rfl⟩, _, rfl, a, rfl, ⟨_, SqL.of ha⟩, fun D hD => lc_list (a := a) (xs := xs) (fun i H' => Same H H' ∧ H' D = some (.lst ((ws.take i).map V.str))) ⟨same_new hD, upd_same⟩ (fun i H' _ p => SqL.of (p.1 _ _ ha)) (fun i x H' hi p => ?_) (fun H' p => ?_)⟩
    · have hil := (List.getElem?_eq_some_iff.mp hi).1
      obtain ⟨u, hu⟩ : ∃ u, ws[i]? = some u := ⟨_, List.getElem?_eq_getElem (by rw [← hx.1]; exact hil)⟩
      refine ⟨rfl, ?_⟩
      refine yes_t (iteT ?_)
      have fin : ∃ acc, H' D = some (.lst acc) ∧ acc.length < sizeLine ∧ Same H (upd H' D (.lst (acc ++ [V.str u]))) ∧ (upd H' D (.lst (acc ++ [V.str u]))) D = some (.lst ((ws.take (i + 1)).map V.str)) := by
        refine ⟨_, p.2, ?_, fun b o e => ?_, ?_⟩
        · rw [List.length_map, List.length_take]
          exact small1000 (by rw [← hx.1] at hl; omega)
        · rw [upd_ne (ne_of_none e hD)]
          exact p.1 b o e
        · rw [upd_same, List.take_add_one, hu, List.map_append]
          rfl
      refine ⟨_, rfl, ?_⟩
      rcases hx.2 i x _ hi hu with ⟨z, rfl, hz, rfl⟩ | rfl
      · exact .inl ⟨z, rfl, num_log hz, fin⟩
      · exact .inr ⟨u, rfl, fin⟩
    · have p2 := p.2
      rw [hx.1, List.take_length] at p2
      exact ⟨_, D, ws, rfl, rfl, .inl (SqL.of p2), Nat.le_trans (join_fit hl hw) (by decide), k H' p.1⟩
/-! ### check_rule, format_rule -/
def spCR (C : Addr) : Sp := fun vs H Q _ => ∃ (p g t o : Addr) (gs : List Int) (tl : Tl), vs = [.ref p] ∧ RuleAt C H p g t o gs tl ∧ Q .non H
theorem scCR : FnScope ["value"] ["value"] (defScope s_check_rule) := ⟨rfl, rfl, rfl, by decide +kernel, rfl, by decide +kernel, by decide +kernel⟩
theorem ok_cr {f C : Addr} {fd : FuncData} (F : Fun K "check_rule" "check_rule" s_check_rule f fd) (T : Txt K mg C) (c : C8.InsC K C) : FnOk P w K mg base CX0 1 f fd ["value"] (spCR C) := by
  refine F.ok scCR (fun vs H Q E h => ?_) (fun cdv A outer s H vs Q E hr h => ?_)
  · obtain ⟨p, g, t, o, gs, tl, rfl, _⟩ := h
    rfl
  · obtain ⟨p, g, t, o, gs, tl, rfl, R, k⟩ := h
    refine ⟨_, (pss_one (ps_if (pt_not (pt_val (pe_callB (C8.call_isC c) (by rfl) T.isi (by decide +kernel) (pa_cons (pv 0) (pa_cons (pe_glob (v := .ref C) rfl T.mgC rfl) pa_nil))))) (pss_one ps_never) pss_nil)), ?_⟩
    obtain ⟨dx, hob⟩ := R.ob
    exact ⟨_, rfl, p, dx, _, rfl, hob, true, rfl, iteF k⟩
def spFm (C : Addr) : Sp := fun vs H Q _ => ∃ (p g t o : Addr) (gs : List Int) (tl : Tl), vs = [.ref p] ∧ RuleAt C H p g t o gs tl ∧ ∀ H', Same H H' → Q (.str (ruleS gs tl)) H'
theorem scFm : FnScope ["rule"] ["rule"] (defScope s_format_rule) := ⟨rfl, rfl, rfl, by decide +kernel, rfl, by decide +kernel, by decide +kernel⟩
theorem ok_fm {f C fC fJ fG fT : Addr} {fd fdC fdJ fdG fdT : FuncData} (F : Fun K "format_rule" "format_rule" s_format_rule f fd) (T : Txt K mg C)
    (GC : FnOk P w K mg base CX0 1 fC fdC ["value"] (spCR C)) (bC : Binds K fdC ["value"] []) (mC : mg "check_rule" = some (.ref fC)) (kC : PySem.W.keepIn K (.ref fC) = true)
    (GJ : FnOk P w K mg base CX0 1 fJ fdJ ["words"] spJo) (bJ : Binds K fdJ ["words"] []) (mJ : mg "_joined" = some (.ref fJ)) (kJ : PySem.W.keepIn K (.ref fJ) = true)
    (GG : FnOk P w K mg base CX0 1 fG fdG ["self"] (spGaps C)) (bG : Binds K fdG ["self"] []) (mG : Meth K C "gaps" fG) (GT : FnOk P w K mg base CX0 1 fT fdT ["self"] (spTail C)) (bT : Binds K fdT ["self"] []) (mT : Meth K C "tail" fT) : FnOk P w K mg base CX0 2 f fd ["rule"] (spFm C) := by
  refine F.ok scFm (fun vs H Q E h => ?_) (fun cdv A outer s H vs Q E hr h => ?_)
  · obtain ⟨p, g, t, o, gs, tl, rfl, _⟩ := h
    rfl
  · obtain ⟨p, g, t, o, gs, tl, rfl, R, k⟩ := h
    refine ⟨_, (pss_cons (ps_expr (pe_call GC hr rfl mC kC bC .nil pass0 (pa_cons (pv 0) pa_nil))) (pss_one (ps_ret (pe_call GJ hr rfl mJ kJ bJ .nil pass0 (pa_cons (pe_lst (StX.pa_star (pe_meth0 (pv 0) T.cl mG GG hr bG .nil pass0) (StX.pa_star (pe_meth0 (pv 0) T.cl mT GT hr bT .nil pass0) pa_nil))) pa_nil))))), ?_⟩
    refine ⟨_, rfl, p, g, t, o, gs, tl, rfl, R, ?_⟩
    obtain ⟨dx, hob⟩ := R.ob
    refine ⟨_, rfl, p, dx, _, rfl, hob, flds_no _ _ _ (by decide +kernel) (by decide +kernel) (by decide +kernel), p, g, t, o, gs, tl, rfl, R, fun l hl => ?_⟩
    have R1 := R.mono (same_new (o := .lst (gs.map V.int)) hl)
    refine ⟨l, _, rfl, .inr (SqL.of upd_same), ?_⟩
    obtain ⟨dx1, hob1⟩ := R1.ob
    refine ⟨_, rfl, p, dx1, _, rfl, hob1, flds_no _ _ _ (by decide +kernel) (by decide +kernel) (by decide +kernel), p, g, t, o, gs, tl, rfl, R1, ?_⟩
    have hok := ruleW_ok R.okG R.okT
    have hlen : (gs.map V.int ++ (tl.vs ++ [])).length = (ruleW gs tl).length := by
      rw [List.append_nil]
      exact ((StrsOf.nums fun i hi => num_gap R.okG hi).app (StrsOf.tl R.okG.1 R.okT)).1
    refine ⟨t, _, rfl, .inl (SqT.of R1.ht), ?_, fun a ha => ?_⟩
    · rw [hlen]
      exact Nat.le_of_lt (small1000 (by omega))
    · refine ⟨a, _, ruleW gs tl, rfl, upd_same, ?_, by omega, hok.2, fun H' S => k H' (((same_new hl).trans (same_new ha)).trans S)⟩
      rw [List.append_nil]
      exact (StrsOf.nums fun i hi => num_gap R.okG hi).app (StrsOf.tl R.okG.1 R.okT)
end
end RS
namespace RS
open PySem L2
/-! ### what the law's turn keeps -/
structure LawAt (C : Addr) (H : Hp) (a L g p g2 t o : Addr) (cs gs : List Int) (tl : Tl) : Prop where
  R : RuleAt C H p g2 t o gs tl
  hL : H L = some (.lst (cs.map V.int))
  hg : H g = some (.lst (gs.map V.int))
  nL : L ≠ a
  ng : g ≠ a
  np : p ≠ a
  n2 : g2 ≠ a
  nt : t ≠ a
  no : o ≠ a
theorem RuleAt.kx {C a : Addr} {H H' : Hp} {p g t o : Addr} {gs : List Int} {tl : Tl} (R : RuleAt C H p g t o gs tl) (h : Kx a H H') (np : p ≠ a) (ng : g ≠ a) (nt : t ≠ a) (no : o ≠ a) : RuleAt C H' p g t o gs tl :=
  ⟨let ⟨dx, e⟩ := R.ob; ⟨dx, h _ _ np e⟩, h _ _ ng R.hg, h _ _ nt R.ht, h _ _ no R.ho, R.okG, R.okT⟩
theorem LawAt.kx {C : Addr} {H H' : Hp} {a L g p g2 t o : Addr} {cs gs : List Int} {tl : Tl} (B : LawAt C H a L g p g2 t o cs gs tl) (h : Kx a H H') : LawAt C H' a L g p g2 t o cs gs tl :=
  ⟨B.R.kx h B.np B.n2 B.nt B.no, h _ _ B.nL B.hL, h _ _ B.ng B.hg, B.nL, B.ng, B.np, B.n2, B.nt, B.no⟩
theorem LawAt.same {C : Addr} {H H' : Hp} {a L g p g2 t o : Addr} {cs gs : List Int} {tl : Tl} (B : LawAt C H a L g p g2 t o cs gs tl) (h : Same H H') : LawAt C H' a L g p g2 t o cs gs tl := B.kx (Kx.of h)
theorem made_same {H : Hp} {p dx : Addr} {o1 o2 : HO} (hp : H p = none) (hd : H dx = none) : Same H (upd (upd H dx o1) p o2) := fun b u e => by
  rw [upd_ne (ne_of_none e hp), upd_ne (ne_of_none e hd)]
  exact e
/-- the law's promise: a list of at most 63 ints is handed in, True comes out -/
def spLaw (K : PySem.W.Frag) : Sp := fun vs H Q _ => ∃ (a : Addr) (ns : List Int), vs = [.ref a] ∧ SqL K H a (ns.map V.int) ∧ ns.length ≤ 63 ∧ ∀ H', Q (.bl true) H'
/-- the cells: the first number (or 0), then some more -/
def cellsOf (n : Nat) (ns : List Int) : List Int := ns.getD 0 0 :: ((ns.drop 1).take (n - 1))
end RS
namespace RS
open PySem L2
section
variable {P : Program} {w : World} {K : PySem.W.Frag} {mg : Str → Option Value} {base : Heap}
/-! ### _read_rule, parse_rule -/
def spRR (CLi : Addr) : Sp := fun vs H Q _ => ∃ (p q : Addr) (gs : List Int) (tl : Tl), vs = [.ref p] ∧ LnAt CLi H p q 0 0 (ruleW gs tl) ∧ GapsOk gs ∧ TlOk gs.length tl ∧
  ∀ (u g t : Addr) (H' : Hp), Kx p H H' → H' u = some (.tup [.ref g, .ref t]) → H' g = some (.lst (gs.map V.int)) → H' t = some (.tup tl.vs) → Q (.ref u) H'
def rrN : List Str := ["line", "gaps", "word", "tail"]
theorem scRR : FnScope rrN ["line"] (defScope s_read_rule) := ⟨rfl, rfl, rfl, by decide +kernel, rfl, by decide +kernel, by decide +kernel⟩
theorem word_in (tl : Tl) : tl.word ∈ (["end", "times", "repeat"] : List Str) := by
  cases tl with
  | fin => exact List.mem_cons_self ..
  | times b => exact List.mem_cons_of_mem _ (List.mem_cons_self ..)
  | rep m => exact List.mem_cons_of_mem _ (List.mem_cons_of_mem _ (List.mem_cons_self ..))
theorem LnAt.off {C : Addr} {H : Hp} {p q a : Addr} {n : Int} {k : Nat} {ws : List Str} {o : HO} (R : LnAt C H p q n k ws) (ha : H a = none) : LnAt C (upd H a o) p q n k ws := R.mono (same_new ha)
theorem ok_rr {f C CLi fWs fOf fWh fFi : Addr} {fd fdWs fdOf fdWh fdFi : FuncData} (F : Fun K "_read_rule" "_read_rule" s_read_rule f fd) (T : Txt K mg C) (TL : TxtL K mg CLi)
    (GWs : FnOk P w K mg base CX0 3 fWs fdWs ["self"] (spWs CLi)) (bWs : Binds K fdWs ["self"] []) (mWs : Meth K CLi "wholes" fWs) (GOf : FnOk P w K mg base CX0 1 fOf fdOf ["self", "words"] (spOf CLi)) (bOf : Binds K fdOf ["self", "words"] []) (mOf : Meth K CLi "one_of" fOf)
    (GWh : FnOk P w K mg base CX0 2 fWh fdWh ["self"] (spWh CLi)) (bWh : Binds K fdWh ["self"] []) (mWh : Meth K CLi "whole" fWh) (GFi : FnOk P w K mg base CX0 1 fFi fdFi ["self"] (spFi CLi)) (bFi : Binds K fdFi ["self"] []) (mFi : Meth K CLi "finish" fFi) : FnOk P w K mg base CX0 4 f fd ["line"] (spRR CLi) := by
  refine F.ok scRR (fun vs H Q E h => ?_) (fun cdv A outer s H vs Q E hr h => ?_)
  · obtain ⟨p, q, gs, tl, rfl, _⟩ := h
    rfl
  · obtain ⟨p, q, gs, tl, rfl, R, okG, okT, k⟩ := h
    have hr1 := hr.mono (show 1 ≤ 3 by decide)
    have hr2 := hr.mono (show 2 ≤ 3 by decide)
    refine ⟨_, (pss_cons (ps_set (i := 1) scRR.nd rfl (Or.inl rfl) (pe_meth0 (pv 0) TL.cl mWs GWs hr bWs .nil pass0)) (pss_cons (ps_set (i := 2) scRR.nd rfl (Or.inl rfl) (pe_meth (pv 0) TL.cl mOf GOf hr1 bOf .nil pass0 (pa_cons (pe_tup (pa_cons pe_str (pa_cons pe_str (pa_cons pe_str pa_nil)))) pa_nil))) (pss_cons (ps_set (i := 3) scRR.nd rfl (Or.inl rfl) (pe_ifExp (pt_cmpR op_eq (pv 2) pe_str (nomark _)) (pe_tup (pa_cons pe_str pa_nil)) (pe_tup (pa_cons (pv 2) (pa_cons (pe_meth0 (pv 0) TL.cl mWh GWh hr2 bWh .nil pass0) pa_nil))))) (pss_cons (ps_expr (pe_meth0 (pv 0) TL.cl mFi GFi hr1 bFi .nil pass0)) (pss_one (ps_ret (pe_tup (pa_cons (pv 1) (pa_cons (pv 3) pa_nil))))))))), ?_⟩
    have hok := ruleW_ok okG okT
    obtain ⟨dx, hob⟩ := R.ob
    refine ⟨_, rfl, p, dx, _, rfl, hob, lfl_no _ _ _ (by decide +kernel) (by decide +kernel) (by decide +kernel), p, q, 0, 0, ruleW gs tl, gs, rfl, R, ruleW_reads okG, .inr ⟨_, by rw [Nat.zero_add]; exact ruleW_word gs tl, word_stop tl⟩, by have := okG.1; omega, fun g H1 hg kx1 R1 hg1 => ?_⟩
    have npg : g ≠ p := (ne_of_none hob hg).symm
    rw [Nat.zero_add] at R1
    obtain ⟨dx1, hob1⟩ := R1.ob
    refine ⟨_, rfl, p, dx1, _, rfl, hob1, lfl_no _ _ _ (by decide +kernel) (by decide +kernel) (by decide +kernel), (by show 3 ≤ sizeLine; decide), fun b hb => ?_⟩
    have Sb : Same H1 (upd H1 b (.tup [.str "end", .str "times", .str "repeat"])) := same_new hb
    refine ⟨p, q, b, 0, gs.length, ruleW gs tl, ["end", "times", "repeat"], tl.word, rfl, R1.mono Sb, ruleW_word gs tl, upd_same, word_in tl, fun H2 kx2 R2 => ?_⟩
    have kx2' : Kx p H1 H2 := (Kx.of Sb).trans kx2
    have hg2 := kx2' _ _ npg hg1
    have kxH2 := kx1.trans kx2'
    clear kx2' kx2 Sb hb R1 hob1 kx1 hg1 R hob
    have fin : ∀ (H3 : Hp) (t : Addr), Kx p H H3 → LnAt CLi H3 p q 0 (ruleW gs tl).length (ruleW gs tl) → H3 g = some (.lst (gs.map V.int)) → H3 t = some (.tup tl.vs) → t ≠ p → tSeq (tDrop (tMeth CLi "finish" (spFi CLi) [] E0 (tVar 0) tNil)) (tRet (tTup (tCons (tVar 1) (tCons (tVar 3) tNil)))) ⟨fun _ H' => Q .non H', Q, fun _ _ => False, fun _ _ => False⟩ [some (.ref p), some (.ref g), some (.str tl.word), some (.ref t)] H3 := by
      intro H3 t kx3 R3 hg3 ht3 ntp
      obtain ⟨dx3, hob3⟩ := R3.ob
      refine ⟨_, rfl, p, dx3, _, rfl, hob3, lfl_no _ _ _ (by decide +kernel) (by decide +kernel) (by decide +kernel), p, q, 0, _, ruleW gs tl, rfl, R3, Nat.le_refl _, ?_⟩
      refine ⟨_, rfl, _, rfl, (by show 2 ≤ sizeLine; decide), fun u hu => ?_⟩
      have S4 := same_new (o := .tup [.ref g, .ref t]) hu
      exact k u g t _ (kx3.trans (Kx.of S4)) upd_same (S4 _ _ hg3) (S4 _ _ ht3)
    refine ⟨_, rfl, rfl, _, rfl, ?_⟩
    have hlen : (ruleW gs tl).length = gs.length + (tlW tl).length := by unfold ruleW; rw [List.length_append, List.length_map]
    obtain ⟨dx2, hob2⟩ := R2.ob
    cases tl with
    | fin =>
      refine iteTb wEE ?_
      refine ⟨(by show 1 ≤ sizeLine; decide), fun t ht => ?_⟩
      have S3 : Same H2 (upd H2 t (.tup [.str "end"])) := same_new ht
      exact fin _ t (kxH2.trans (Kx.of S3)) (by rw [hlen]; exact R2.mono S3) (S3 _ _ hg2) upd_same (ne_of_none hob2 ht).symm
    | times b =>
      refine iteFb wTE ?_
      have hb : Num30 b := by have := okT.2; unfold Num30; omega
      have hw : (ruleW gs (.times b))[gs.length + 1]? = some (numS b) := by
        unfold ruleW
        rw [List.getElem?_append_right (by rw [List.length_map]; omega), List.length_map, Nat.add_sub_cancel_left]
        rfl
      refine ⟨_, rfl, _, rfl, p, dx2, _, rfl, hob2, lfl_no _ _ _ (by decide +kernel) (by decide +kernel) (by decide +kernel), p, q, 0, _, _, numS b, b, rfl, R2, hw, isNum_numS hb, numS_int hb, by have := numS_len hb; omega, fun H3 kx3 R3 => ?_⟩
      refine ⟨(by show 2 ≤ sizeLine; decide), fun t ht => ?_⟩
      have S4 : Same H3 (upd H3 t (.tup [.str "times", .int b])) := same_new ht
      obtain ⟨dx3, hob3⟩ := R3.ob
      exact fin _ t (kxH2.trans (kx3.trans (Kx.of S4))) (by rw [hlen]; exact R3.mono S4) (S4 _ _ (kx3 _ _ npg hg2)) upd_same (ne_of_none hob3 ht).symm
    | rep m =>
      refine iteFb wRE ?_
      have hb : Num30 (m : Int) := by have := okT.2; have := okG.1; unfold Num30; omega
      have hw : (ruleW gs (.rep m))[gs.length + 1]? = some (numS (m : Int)) := by
        unfold ruleW
        rw [List.getElem?_append_right (by rw [List.length_map]; omega), List.length_map, Nat.add_sub_cancel_left]
        rfl
      refine ⟨_, rfl, _, rfl, p, dx2, _, rfl, hob2, lfl_no _ _ _ (by decide +kernel) (by decide +kernel) (by decide +kernel), p, q, 0, _, _, numS (m : Int), (m : Int), rfl, R2, hw, isNum_numS hb, numS_int hb, by have := numS_len hb; omega, fun H3 kx3 R3 => ?_⟩
      refine ⟨(by show 2 ≤ sizeLine; decide), fun t ht => ?_⟩
      have S4 : Same H3 (upd H3 t (.tup [.str "repeat", .int (m : Int)])) := same_new ht
      obtain ⟨dx3, hob3⟩ := R3.ob
      exact fin _ t (kxH2.trans (kx3.trans (Kx.of S4))) (by rw [hlen]; exact R3.mono S4) (S4 _ _ (kx3 _ _ npg hg2)) upd_same (ne_of_none hob3 ht).symm
def spPR (C : Addr) : Sp := fun vs H Q _ => ∃ (gs : List Int) (tl : Tl), vs = [.str (ruleS gs tl)] ∧ GapsOk gs ∧ TlOk gs.length tl ∧ ∀ (p g t o : Addr) (H' : Hp), Same H H' → RuleAt C H' p g t o gs tl → Q (.ref p) H'
def parN : List Str := ["text", "lines", "gaps", "tail"]
theorem scPR : FnScope parN ["text"] (defScope s_parse_rule) := ⟨rfl, rfl, rfl, by decide +kernel, rfl, by decide +kernel, by decide +kernel⟩
theorem ok_pr {f C CLi fI fLi fRR fN fIL : Addr} {fd fdI fdLi fdRR fdN fdIL : FuncData} (F : Fun K "parse_rule" "parse_rule" s_parse_rule f fd) (T : Txt K mg C) (TL : TxtL K mg CLi) (M : Mk K C fI) (GI : FnOk P w K mg base CX0 3 fI fdI ["self", "gaps", "tail"] (spInit C)) (bI : Binds K fdI ["self", "gaps", "tail"] [])
    (ML : Mk K CLi fIL) (GIL : FnOk P w K mg base CX0 1 fIL fdIL ["self", "lines", "number"] (spLn CLi)) (bIL : Binds K fdIL ["self", "lines", "number"] [])
    (GLi : FnOk P w K mg base CX0 1 fLi fdLi ["text"] spLines) (bLi : Binds K fdLi ["text"] []) (mLi : mg "lines_of" = some (.ref fLi)) (kLi : PySem.W.keepIn K (.ref fLi) = true)
    (GRR : FnOk P w K mg base CX0 4 fRR fdRR ["line"] (spRR CLi)) (bRR : Binds K fdRR ["line"] []) (mRR : mg "_read_rule" = some (.ref fRR)) (kRR : PySem.W.keepIn K (.ref fRR) = true)
    (GN : FnOk P w K mg base CX0 1 fN fdN ["lines", "number"] spNoLine) (bN : Binds K fdN ["lines", "number"] []) (mN : mg "check_no_line" = some (.ref fN)) (kN : PySem.W.keepIn K (.ref fN) = true) : FnOk P w K mg base CX0 5 f fd ["text"] (spPR C) := by
  refine F.ok scPR (fun vs H Q E h => ?_) (fun cdv A outer s H vs Q E hr h => ?_)
  · obtain ⟨gs, tl, rfl, _⟩ := h
    rfl
  · obtain ⟨gs, tl, rfl, okG, okT, k⟩ := h
    have hr1 := hr.mono (show 1 ≤ 4 by decide)
    have hr2 := hr.mono (show 2 ≤ 4 by decide)
    refine ⟨_, (pss_cons (ps_set (i := 1) scPR.nd rfl (Or.inl rfl) (pe_call GLi hr1 rfl mLi kLi bLi .nil pass0 (pa_cons (pv 0) pa_nil))) (pss_cons (ps_asg (pe_call GRR hr rfl mRR kRR bRR .nil pass0 (pa_cons (pe_make ML GIL hr2 rfl TL.mgL bIL .nil pass0 (pa_cons (pv 1) (pa_cons pe_int pa_nil))) pa_nil)) (pg_tup rfl (pgs_cons (pg_name (i := 2) scPR.nd rfl (Or.inl rfl)) (pgs_cons (pg_name (i := 3) scPR.nd rfl (Or.inl rfl)) pgs_nil)))) (pss_cons (ps_expr (pe_call GN hr1 rfl mN kN bN .nil pass0 (pa_cons (pv 1) (pa_cons pe_int pa_nil)))) (pss_one (ps_ret (pe_make M GI hr rfl T.mgC bI .nil pass0 (pa_cons (pv 2) (pa_cons (pv 3) pa_nil)))))))), ?_⟩
    have hok := ruleW_ok okG okT
    have hsl : (ruleS gs tl).length ≤ 2222 := join_len hok.1 hok.2
    have hsp : Txt.split (ruleS gs tl) "\n" = [ruleS gs tl] := lines_one (join_free (by decide) fun u hu z => ((hok.2 u hu).fr 10 z).2 rfl)
    refine ⟨_, rfl, _, rfl, by omega, fun l hl => ?_⟩
    rw [hsp]
    have S1 : Same H (upd H l (.lst ([ruleS gs tl].map V.str))) := same_new hl
    have hl1 : (upd H l (.lst ([ruleS gs tl].map V.str))) l = some (.lst ([ruleS gs tl].map V.str)) := upd_same
    generalize upd H l (.lst ([ruleS gs tl].map V.str)) = H1 at S1 hl1
    refine ⟨_, rfl, fun p dx hp hdx _ => ?_⟩
    have S2 : Same H1 (upd (upd H1 dx (.own p)) p (.ins CLi dx [])) := made_same hp hdx
    refine ⟨p, dx, l, [ruleS gs tl], 0, ruleS gs tl, rfl, upd_same, S2 _ _ hl1, rfl, by omega, fun q H3 hq kp R3 => ⟨rfl, ?_⟩⟩
    have S13 : Same H1 H3 := fun b u e => kp b u (S2 _ _ e) (ne_of_none e hp)
    rw [show wordsOf (ruleS gs tl) = ruleW gs tl from words_join hok.2] at R3
    refine ⟨p, q, gs, tl, rfl, R3, okG, okT, fun u g t H4 kx4 hu hg ht => ?_⟩
    have S14 : Same H1 H4 := fun b o e => kx4 b o (ne_of_none e hp) (S13 b o e)
    refine ⟨u, _, rfl, SqT.of hu, rfl, _, _, rfl, _, _, rfl, rfl, ?_⟩
    refine ⟨_, rfl, l, _, 1, rfl, S14 _ _ hl1, (by show ((1 : Nat) : Int) ≤ 1; decide), ?_⟩
    refine ⟨_, rfl, _, rfl, fun p2 dx2 hp2 hdx2 _ => ?_⟩
    have Sm : Same H4 (upd (upd H4 dx2 (.own p2)) p2 (.ins C dx2 [])) := made_same hp2 hdx2
    refine ⟨p2, dx2, g, t, gs, tl, rfl, upd_same, Sm _ _ hg, Sm _ _ ht, okG, okT, fun g2 o H5 hg2 ho kp5 R5 => ⟨rfl, ?_⟩⟩
    exact k p2 g2 t o H5 (fun b o e => kp5 b o (Sm _ _ (S14 _ _ (S1 _ _ e))) (ne_of_none (S14 _ _ (S1 _ _ e)) hp2)) R5
end
end RS
namespace RS
open PySem L2
section
variable {P : Program} {w : World} {K : PySem.W.Frag} {mg : Str → Option Value} {base : Heap}
/-! ### format_log, parse_log -/
/-- a tuple of two integers -/
def spTwo : Sp := fun vs H Q _ => ∃ (r : Addr) (f e : Int), vs = [.ref r] ∧ H r = some (.tup [.int f, .int e]) ∧ Q (.bl true) H
theorem scTwo : FnScope ["value"] ["value"] (defScope s_are_two_integers) := ⟨rfl, rfl, rfl, by decide +kernel, rfl, by decide +kernel, by decide +kernel⟩
theorem ok_two {f C fI : Addr} {fd fdI : FuncData} (F : Fun K "are_two_integers" "are_two_integers" s_are_two_integers f fd) (T : Txt K mg C)
    (GI : FnOk P w K mg base CX0 1 fI fdI ["value"] spIsInt) (bI : Binds K fdI ["value"] []) (mI : mg "is_integer" = some (.ref fI)) (kI : PySem.W.keepIn K (.ref fI) = true) : FnOk P w K mg base CX0 2 f fd ["value"] spTwo := by
  refine F.ok scTwo (fun vs H Q E h => ?_) (fun cdv A outer s H vs Q E hr h => ?_)
  · obtain ⟨r, f, e, rfl, _⟩ := h
    rfl
  · obtain ⟨r, f, e, rfl, hr1, k⟩ := h
    refine ⟨_, (pss_cons (ps_if (PW.pt (pw_or (pt_not (pt_val (pe_callB call_isi (by rfl) T.isi (by decide +kernel) (pa_cons (pv 0) (pa_cons (pe_bltn (v := .ty "tuple") (by rfl) T.tuple (by decide +kernel) rfl) pa_nil))))) (pw_or1 (pt_cmpR op_ne (pe_callB call_len_seq (by rfl) T.len (by decide +kernel) (pa_cons (pv 0) pa_nil)) pe_int (nomark _))))) (pss_one (ps_ret pe_bl)) pss_nil) (pss_one (ps_ret (pe_and (pe_call GI hr rfl mI kI bI .nil pass0 (pa_cons (pe_ix ix_tup (pv 0) pe_int (fun _ _ => rfl)) pa_nil)) (pe_one (pe_call GI hr rfl mI kI bI .nil pass0 (pa_cons (pe_ix ix_tup (pv 0) pe_int (fun _ _ => rfl)) pa_nil))))))), ?_⟩
    refine ⟨_, rfl, _, _, _, _, _, rfl, .ty _, .base (.tup hr1), kit_ty (r := true) (by decide +kernel), true, rfl, iteF ?_⟩
    refine ⟨_, rfl, r, _, rfl, .inr (SqT.of hr1), rfl, _, rfl, iteFb (by rfl) ?_⟩
    refine ⟨_, rfl, r, _, _, _, rfl, rfl, SqT.of hr1, atI_nat (j := 0) rfl, f, rfl, true, rfl, iteT ?_⟩
    exact ⟨_, rfl, r, _, _, _, rfl, rfl, SqT.of hr1, atI_nat (j := 1) rfl, e, rfl, k⟩
theorem TupsI.get {H : Hp} {rs : List Addr} {ps : List (Int × Int)} (t : TupsI H rs ps) {i : Nat} {x : V} (h : (rs.map V.ref)[i]? = some x) : ∃ r p, x = .ref r ∧ ps[i]? = some p ∧ H r = some (.tup [.int p.1, .int p.2]) := by
  rw [List.getElem?_map] at h
  cases e : rs[i]? with
  | none => rw [e] at h; cases h
  | some r =>
    rw [e] at h
    cases h
    have hl := (List.getElem?_eq_some_iff.mp e).1
    have hp : ps[i]? = some (ps[i]'(by rw [← t.1]; exact hl)) := List.getElem?_eq_getElem _
    obtain ⟨r', e1, e2⟩ := t.2 i _ hp
    rw [e] at e1
    cases e1
    exact ⟨r, _, rfl, hp, e2⟩
theorem empty_app (x : Str) : Str.empty ++ x = x := by
  have h : TL.tl (Str.empty ++ x) = TL.tl x := by rw [TL.tl_append]; rfl
  have e1 := StrLaws.mk_of_toList (x := Str.empty ++ x) h
  have e2 := StrLaws.mk_of_toList (x := x) (l := TL.tl x) rfl
  exact e1.trans e2.symm
def tFs (ts : List TE) : TE := fun σ H Q => tJs ts Str.empty σ H fun out H1 => Q (V.str out) H1
def spFL : Sp := fun vs H Q _ => ∃ (a : Addr) (rs : List Addr) (ps : List (Int × Int)), vs = [.ref a] ∧ H a = some (.lst (rs.map V.ref)) ∧ TupsI H rs ps ∧ ps.length ≤ 900 ∧ (∀ p ∈ ps, NumP p) ∧ ∀ H', Same H H' → Q (.str (logS ps)) H'
def flN : List Str := ["log", "at", "entry", "slot", "count"]
theorem scFL : FnScope flN ["log"] (defScope s_format_log) := ⟨rfl, rfl, rfl, by decide +kernel, rfl, by decide +kernel, by decide +kernel⟩
theorem ok_fl {f C fW fJ : Addr} {fd fdW fdJ : FuncData} (F : Fun K "format_log" "format_log" s_format_log f fd) (T : Txt K mg C)
    (GW : FnOk P w K mg base CX0 2 fW fdW ["value"] spTwo) (bW : Binds K fdW ["value"] []) (mW : mg "are_two_integers" = some (.ref fW)) (kW : PySem.W.keepIn K (.ref fW) = true)
    (GJ : FnOk P w K mg base CX0 1 fJ fdJ ["words"] spJo) (bJ : Binds K fdJ ["words"] []) (mJ : mg "_joined" = some (.ref fJ)) (kJ : PySem.W.keepIn K (.ref fJ) = true) : FnOk P w K mg base CX0 3 f fd ["log"] spFL := by
  refine F.ok scFL (fun vs H Q E h => ?_) (fun cdv A outer s H vs Q E hr h => ?_)
  · obtain ⟨a, rs, ps, rfl, _⟩ := h
    rfl
  · obtain ⟨a, rs, ps, rfl, ha, tp, hl, hn, k⟩ := h
    have hr1 := hr.mono (show 1 ≤ 2 by decide)
    refine ⟨_, (pss_cons (ps_if (pt_not (pt_val (pe_callB call_isi (by rfl) T.isi (by decide +kernel) (pa_cons (pv 0) (pa_cons (pe_bltn (v := .ty "list") (by rfl) T.list (by decide +kernel) rfl) pa_nil))))) (pss_one ps_never) pss_nil) (pss_cons (ps_for PassesOwn.never rfl (pi_enum (by rfl) T.enum (pa_cons (pv 0) pa_nil)) (pg_tup rfl (pgs_cons (pg_name (i := 1) scFL.nd rfl (Or.inl rfl)) (pgs_cons (pg_name (i := 2) scFL.nd rfl (Or.inl rfl)) pgs_nil))) (pss_one (ps_if (pt_not (pt_val (pe_call GW hr rfl mW kW bW .nil pass0 (pa_cons (pv 2) pa_nil)))) (pss_one ps_never) pss_nil))) (pss_one (ps_ret (pe_call GJ hr1 rfl mJ kJ bJ .nil pass0 (pa_cons (pe_lc (own := [("slot", 3), ("count", 4)]) (g := gTup K 2 (gCons (gName 3) (gCons (gName 4) gNil))) (tt := tYes) (te := tFs [tFmt (tVar 3), tC (.str ":"), tFmt (tVar 4)]) rfl scFL.nd (pi_list (pv 0)) (blkOk_by (own := [("slot", 3), ("count", 4)]) (N := flN) (sc := defScope s_format_log) (by decide +kernel))
        (fun _ _ _ _ _ => pg_tup rfl (pgs_cons (pg_name (i := 3) scFL.nd rfl (Or.inl rfl)) (pgs_cons (pg_name (i := 4) scFL.nd rfl (Or.inl rfl)) pgs_nil))) (fun _ _ _ _ _ => pts_nil) (fun _ _ _ _ _ => (pe_joined (.cons (pe_fmt (pv 3)) (.cons pe_str (.cons (pe_fmt (pv 4)) .nil)))))) pa_nil)))))), ?_⟩
    refine ⟨_, rfl, _, _, _, _, _, rfl, .ty _, .base (.lst ha), kit_ty (r := true) (by decide +kernel), true, rfl, iteF ?_⟩
    refine ⟨_, rfl, a, _, rfl, SqL.of ha, for_it (walk_enum (a := a) (xs := rs.map V.ref)) (fun i σ H' => (∃ v1 v2, σ = [some (.ref a), v1, v2, none, none]) ∧ Same H H') ⟨⟨_, _, rfl⟩, Same.refl H⟩ (fun i σ H' _ p => SqL.of (p.2 _ _ ha)) ?_ ?_⟩
    · rintro i x σ H1 H2 hi ⟨⟨v1, v2, rfl⟩, S⟩ ⟨T2, x1, y1, rfl, hT, rfl, hx1, hy1⟩
      obtain rfl := Option.some.inj hx1
      obtain ⟨r, p, rfl, hp, hrr⟩ := tp.get hy1
      have sT := same_new (o := .tup [V.int (i : Nat), .ref r]) hT
      have S2 := S.trans sT
      refine ⟨T2, _, rfl, SqT.of upd_same, rfl, _, _, rfl, _, _, rfl, rfl, ?_⟩
      exact ⟨_, rfl, r, _, _, rfl, S2 _ _ hrr, true, rfl, iteF ⟨⟨_, _, rfl⟩, S2⟩⟩
    · rintro σ H1 ⟨⟨v1, v2, rfl⟩, S1⟩
      have hw := logW_ok hn
      refine ⟨_, rfl, a, rfl, ⟨_, SqL.of (S1 _ _ ha)⟩, fun D hD => lc_list (a := a) (xs := rs.map V.ref) (fun i H' => Same H1 H' ∧ H' D = some (.lst (((ps.map pairS).take i).map V.str))) ⟨same_new hD, upd_same⟩ (fun i H' _ p => SqL.of (p.1 _ _ (S1 _ _ ha))) (fun i x H' hi p => ?_) (fun H' p => ?_)⟩
      · have hil := (List.getElem?_eq_some_iff.mp hi).1
        rw [List.length_map] at hil
        obtain ⟨r, q, rfl, hq, hrr⟩ := tp.get hi
        have hu : (ps.map pairS)[i]? = some (pairS q) := by rw [List.getElem?_map, hq]; rfl
        have hnq := hn q (List.mem_of_getElem? hq)
        have h1 := numS_len hnq.1
        have h2 := numS_len hnq.2
        have hz : (":" : Str).length = 1 := by decide +kernel
        refine ⟨r, _, rfl, SqT.of (p.1 _ _ (S1 _ _ hrr)), rfl, _, _, rfl, _, _, rfl, rfl, rfl, ?_⟩
        refine yes_t (iteT ?_)
        refine ⟨_, rfl, .inr ⟨_, rfl, num_log hnq.1, _, rfl, ?_, ?_⟩⟩
        · rw [empty_app]
          exact Nat.le_trans h1.2 (by decide)
        refine ⟨_, rfl, ?_, ?_⟩
        · rw [empty_app, app_len, hz]
          exact Nat.le_trans (Nat.add_le_add_right h1.2 1) (by decide)
        refine ⟨_, rfl, .inr ⟨_, rfl, num_log hnq.2, _, rfl, ?_, ?_⟩⟩
        · rw [empty_app, app_len, app_len, hz]
          exact Nat.le_trans (Nat.add_le_add (Nat.add_le_add_right h1.2 1) h2.2) (by decide)
        rw [empty_app]
        refine ⟨_, p.2, ?_, fun b o e => ?_, ?_⟩
        · rw [List.length_map, List.length_take, List.length_map]
          exact small1000 (by omega)
        · rw [upd_ne (ne_of_none e hD)]
          exact p.1 b o e
        · rw [upd_same, List.take_add_one, hu, List.map_append]
          rfl
      · have p2 := p.2
        rw [List.length_map, tp.1, show ps.length = (ps.map pairS).length by rw [List.length_map], List.take_length] at p2
        exact ⟨D, _, ps.map pairS, rfl, p2, StrsOf.strs _, by rw [List.length_map]; omega, hw, fun H2 S2 => k H2 ((S1.trans p.1).trans S2)⟩
def spPL : Sp := fun vs H Q _ => ∃ (ps : List (Int × Int)), vs = [.str (logS ps)] ∧ ps.length ≤ 800 ∧ (∀ p ∈ ps, NumP p) ∧ ∀ g rs H', H g = none → (∀ r ∈ rs, H r = none) → Same H H' → H' g = some (.lst (rs.map V.ref)) → TupsI H' rs ps → Q (.ref g) H'
def plN : List Str := ["text", "lines", "line", "log"]
theorem scPL : FnScope plN ["text"] (defScope s_parse_log) := ⟨rfl, rfl, rfl, by decide +kernel, rfl, by decide +kernel, by decide +kernel⟩
theorem ok_pl {f C CLi fLi fPs fN fIL fFi : Addr} {fd fdLi fdPs fdN fdIL fdFi : FuncData} (F : Fun K "parse_log" "parse_log" s_parse_log f fd) (T : Txt K mg C) (TL : TxtL K mg CLi)
    (ML : Mk K CLi fIL) (GIL : FnOk P w K mg base CX0 1 fIL fdIL ["self", "lines", "number"] (spLn CLi)) (bIL : Binds K fdIL ["self", "lines", "number"] [])
    (GLi : FnOk P w K mg base CX0 1 fLi fdLi ["text"] spLines) (bLi : Binds K fdLi ["text"] []) (mLi : mg "lines_of" = some (.ref fLi)) (kLi : PySem.W.keepIn K (.ref fLi) = true)
    (GPs : FnOk P w K mg base CX0 3 fPs fdPs ["self", "mark"] (spPs CLi)) (bPs : Binds K fdPs ["self", "mark"] []) (mPs : Meth K CLi "pairs" fPs) (GFi : FnOk P w K mg base CX0 1 fFi fdFi ["self"] (spFi CLi)) (bFi : Binds K fdFi ["self"] []) (mFi : Meth K CLi "finish" fFi)
    (GN : FnOk P w K mg base CX0 1 fN fdN ["lines", "number"] spNoLine) (bN : Binds K fdN ["lines", "number"] []) (mN : mg "check_no_line" = some (.ref fN)) (kN : PySem.W.keepIn K (.ref fN) = true) : FnOk P w K mg base CX0 4 f fd ["text"] spPL := by
  refine F.ok scPL (fun vs H Q E h => ?_) (fun cdv A outer s H vs Q E hr h => ?_)
  · obtain ⟨ps, rfl, _⟩ := h
    rfl
  · obtain ⟨ps, rfl, hl, hn, k⟩ := h
    have hr1 := hr.mono (show 1 ≤ 3 by decide)
    have hr2 := hr.mono (show 2 ≤ 3 by decide)
    refine ⟨_, (pss_cons (ps_set (i := 1) scPL.nd rfl (Or.inl rfl) (pe_call GLi hr1 rfl mLi kLi bLi .nil pass0 (pa_cons (pv 0) pa_nil))) (pss_cons (ps_set (i := 2) scPL.nd rfl (Or.inl rfl) (pe_make ML GIL hr2 rfl TL.mgL bIL .nil pass0 (pa_cons (pv 1) (pa_cons pe_int pa_nil)))) (pss_cons (ps_set (i := 3) scPL.nd rfl (Or.inl rfl) (pe_meth (pv 2) TL.cl mPs GPs hr bPs .nil pass0 (pa_cons pe_str pa_nil))) (pss_cons (ps_expr (pe_meth0 (pv 2) TL.cl mFi GFi hr1 bFi .nil pass0)) (pss_cons (ps_expr (pe_call GN hr1 rfl mN kN bN .nil pass0 (pa_cons (pv 1) (pa_cons pe_int pa_nil)))) (pss_one (ps_ret (pv 3)))))))), ?_⟩
    have hw := logW_ok hn
    have hwl : (ps.map pairS).length ≤ 800 := by rw [List.length_map]; exact hl
    have hsl : (logS ps).length ≤ 80800 := join_len hwl hw
    have hsp : Txt.split (logS ps) "\n" = [logS ps] := lines_one (join_free (by decide) fun u hu z => ((hw u hu).fr 10 z).2 rfl)
    refine ⟨_, rfl, _, rfl, by omega, fun l hl0 => ?_⟩
    rw [hsp]
    have S1 : Same H (upd H l (.lst ([logS ps].map V.str))) := same_new hl0
    have hl1 : (upd H l (.lst ([logS ps].map V.str))) l = some (.lst ([logS ps].map V.str)) := upd_same
    generalize upd H l (.lst ([logS ps].map V.str)) = H1 at S1 hl1
    refine ⟨_, rfl, fun p dx hp hdx _ => ?_⟩
    have S2 : Same H1 (upd (upd H1 dx (.own p)) p (.ins CLi dx [])) := made_same hp hdx
    refine ⟨p, dx, l, [logS ps], 0, logS ps, rfl, upd_same, S2 _ _ hl1, rfl, by omega, fun q H3 hq kp R3 => ⟨rfl, ?_⟩⟩
    have S13 : Same H1 H3 := fun b u e => kp b u (S2 _ _ e) (ne_of_none e hp)
    rw [show wordsOf (logS ps) = ps.map pairS from words_join hw] at R3
    obtain ⟨dx3, hob3⟩ := R3.ob
    refine ⟨_, rfl, p, dx3, _, rfl, hob3, lfl_no _ _ _ (by decide +kernel) (by decide +kernel) (by decide +kernel), p, q, _, 0, _, ":", ps, rfl, R3, by decide +kernel, logW_reads hn, .inl (by rw [Nat.zero_add, List.length_map]), by omega, fun g rs H4 hg hrs kx4 R4 hg4 T4 => ?_⟩
    have S14 : Same H1 H4 := fun b o e => kx4 b o (ne_of_none e hp) (S13 b o e)
    obtain ⟨dx4, hob4⟩ := R4.ob
    refine ⟨_, rfl, p, dx4, _, rfl, hob4, lfl_no _ _ _ (by decide +kernel) (by decide +kernel) (by decide +kernel), p, q, _, _, _, rfl, R4, by rw [Nat.zero_add, List.length_map]; exact Nat.le_refl _, ?_⟩
    refine ⟨_, rfl, l, _, 1, rfl, S14 _ _ hl1, (by show ((1 : Nat) : Int) ≤ 1; decide), ?_⟩
    exact ⟨_, rfl, k g rs H4 (S1.free (S13.free hg)) (fun r hr => S1.free (S13.free (hrs r hr))) (S1.trans S14) hg4 T4⟩
end
end RS
namespace RS
open PySem L2 PySem.Spec PyProof.Rows
/-! ### a def of the module called with keywords alone: f(k = v) -/
def tDefK (n : Nat) (sp : Sp) (gV : List V → List V → List V) (E : XK) (tk : TA) : TE := fun σ H Q => tk σ H fun zs H2 => zs.length = n ∧ sp (gV [] zs) H2 Q E
theorem pe_defK0 {X : Cx} {CX : CXT} {k : Nat} {f : Addr} {fd : FuncData} {x : Str} {p pos : Pos} {ps ks : List Str} {sp : Sp} {E : XK} {kws : List Keyword} {tk : TA} {g : List Value → List Value → List Value} {gV : List V → List V → List V}
    (F : FnOk X.prog X.w X.K X.mg X.base CX k f fd ps sp) (hr : Room k X.A) (hg : Gl X x) (hm : X.mg x = some (.ref f)) (hf : PySem.W.keepIn X.K (.ref f) = true) (hb : KBn X.K fd ps 0 ks g gV) (hx : Passes CX X E) (hkw : PK X kws tk)
    (a1 : (backToKw pos (keywordEach kws X.env)).all (·.1.isSome) = true := by rfl) (a2 : (backToKw pos (keywordEach kws X.env)).filterMap (·.1) = ks := by rfl) (a3 : (x == ("__debug__" : Str)) = false := by decide)
    (a4 : ((backTo pos (starEach [] X.env)).any (·.1) || (backToKw pos (keywordEach kws X.env)).any (·.1.isNone)) = false := by rfl) :
    PE X (.Call (.Name x p) [] kws pos) (tDefK ks.length sp gV E tk) := by
  constructor
  intro pins s σ H Q I h
  refine wpAny_Call_Name_kw (ld_glob I hg hm (PySem.W.callWith_KW0 (first := []) (h₀ := X.base) I.ok.mod.kin hf a1 (thn (hkw.run pos pins s σ H _ I h) ?_) a4) a3)
  intro ws s2 ⟨zs, H2, I2, rz, l2, q2⟩
  refine ⟨I2.kIn, ?_⟩
  rw [a2]
  exact run_fnN (us := []) (vs := []) F hr hb hx I2 .nil rz rfl l2 q2
/-- how a def of one parameter binds it by its name -/
theorem kb_one {K : PySem.W.Frag} {x qual : Str} {st : Stmt} {f : Addr} {fd : FuncData} {ps ks : List Str} (F : Fun K x qual st f fd)
    (h : ∀ (kV doc pm : Value) (an : Option Addr) (cdv ct v : Value), bindArgs (PySem.W.fnOf x qual (defArgs st) (defBody st) (defScope st) .none kV doc pm an cdv ct) ⟨[], ks.zip [v]⟩ = pure (ps.zip [v])) (hk : ks.length = 1) :
    KBn K fd ps 0 ks (fun us ws => us ++ ws) (fun vs zs => vs ++ zs) := by
  obtain ⟨oc, od, kV, doc, pm, an, cdv, ct, osl, rfl, lk, hcd⟩ := F.ex
  refine ⟨fun s us ws _ l1 l2 => .of_eq ?_, fun r1 r2 => r1.append r2⟩
  rw [hk] at l2
  match us, ws, l1, l2 with
  | [], [v], _, _ => exact h kV doc pm an cdv ct v
section
variable {K : PySem.W.Frag} {f : Addr} {fd : FuncData}
theorem kb_fm (F : Fun K "format_rule" "format_rule" s_format_rule f fd) : KBn K fd ["rule"] 0 ["rule"] (fun us ws => us ++ ws) (fun vs zs => vs ++ zs) := kb_one F (fun _ _ _ _ _ _ _ => rfl) rfl
theorem kb_pr (F : Fun K "parse_rule" "parse_rule" s_parse_rule f fd) : KBn K fd ["text"] 0 ["text"] (fun us ws => us ++ ws) (fun vs zs => vs ++ zs) := kb_one F (fun _ _ _ _ _ _ _ => rfl) rfl
theorem kb_fl (F : Fun K "format_log" "format_log" s_format_log f fd) : KBn K fd ["log"] 0 ["log"] (fun us ws => us ++ ws) (fun vs zs => vs ++ zs) := kb_one F (fun _ _ _ _ _ _ _ => rfl) rfl
theorem kb_pl (F : Fun K "parse_log" "parse_log" s_parse_log f fd) : KBn K fd ["text"] 0 ["text"] (fun us ws => us ++ ws) (fun vs zs => vs ++ zs) := kb_one F (fun _ _ _ _ _ _ _ => rfl) rfl
end
end RS
namespace RS
open PySem L2
section
variable {P : Program} {w : World} {K : PySem.W.Frag} {mg : Str → Option Value} {base : Heap}
/-! ### _law_number -/
def spNb : Sp := fun vs H Q _ => ∃ (a : Addr) (b : Nat), vs = [.ref a] ∧ Src H a b ∧ b ≤ 50000 ∧ ∀ i H', Num30 i → Kx a H H' → Src H' a (b + 3) → Q (.int i) H'
theorem scNb : FnScope ["_law_source"] ["_law_source"] (defScope s_law_number) := ⟨rfl, rfl, rfl, by decide +kernel, rfl, by decide +kernel, by decide +kernel⟩
theorem ok_nb {f C fN fO : Addr} {fd fdN fdO : FuncData} (F : Fun K "_law_number" "_law_number" s_law_number f fd) (T : Txt K mg C) (GN : FnOk P w K mg base CX0 1 fN fdN ["_law_source", "_law_many"] spNext) (bN : Binds K fdN ["_law_source", "_law_many"] []) (mN : mg "_law_next" = some (.ref fN)) (kN : PySem.W.keepIn K (.ref fN) = true)
    (GO : FnOk P w K mg base CX0 2 fO fdO ["_law_source", "_law_options"] spOne) (bO : Binds K fdO ["_law_source", "_law_options"] []) (mO : mg "_law_one" = some (.ref fO)) (kO : PySem.W.keepIn K (.ref fO) = true) : FnOk P w K mg base CX0 3 f fd ["_law_source"] spNb := by
  refine F.ok scNb (fun vs H Q E h => ?_) (fun cdv A outer s H vs Q E hr h => ?_)
  · obtain ⟨a, b, rfl, _⟩ := h
    rfl
  · obtain ⟨a, b, rfl, S, hb, k⟩ := h
    have hr1 := hr.mono (show 1 ≤ 2 by decide)
    refine ⟨_, (pss_one (ps_ret (pe_op op_mul (pe_call GN hr1 rfl mN kN bN .nil pass0 (pa_cons (pv 0) (pa_cons (pe_call GO hr rfl mO kO bO .nil pass0 (pa_cons (pv 0) (pa_cons (pe_lst (pa_cons pe_int (pa_cons pe_int (pa_cons (pe_op op_pow pe_int pe_int) pa_nil)))) pa_nil))) pa_nil))) (pe_call GO hr rfl mO kO bO .nil pass0 (pa_cons (pv 0) (pa_cons (pe_lst (pa_cons pe_int (pa_cons pe_int (pa_cons (pe_un un_neg pe_int) pa_nil)))) pa_nil)))))), ?_⟩
    refine ⟨_, rfl, _, rfl, _, _, rfl, rfl, ⟨by decide, by decide, by decide⟩, (by show 3 ≤ sizeLine; decide), fun q1 hq1 => ?_⟩
    have S1 : Same H (upd H q1 (.lst [.int 3, .int 40, .int ((10 : Int) ^ (30 : Int).toNat)])) := same_new hq1
    refine ⟨a, q1, _, b, rfl, S.mono S1, by omega, (S.new hq1).symm, upd_same, by show 0 < 3; decide, by show 3 < 1000; decide, fun x H2 hx kx2 R2 => ?_⟩
    obtain ⟨wd, rfl, wd1, wd2⟩ : ∃ wd : Int, x = .int wd ∧ 1 ≤ wd ∧ wd ≤ 10 ^ 30 := by
      simp only [List.mem_cons, List.not_mem_nil, or_false] at hx
      rcases hx with rfl | rfl | rfl <;> exact ⟨_, rfl, by decide, by decide⟩
    refine ⟨a, wd, b + 1, rfl, R2, by omega, wd1, by omega, fun r H3 r0 r1 kx3 R3 => ?_⟩
    have kxH3 := ((Kx.of S1).trans kx2).trans kx3
    clear kx2 kx3 R2 S1 hx hq1
    refine ⟨_, rfl, _, rfl, (by show 3 ≤ sizeLine; decide), fun q2 hq2 => ?_⟩
    have S4 : Same H3 (upd H3 q2 (.lst [.int 1, .int 1, .int (-1)])) := same_new hq2
    refine ⟨a, q2, _, b + 2, rfl, R3.mono S4, by omega, (R3.new hq2).symm, upd_same, by show 0 < 3; decide, by show 3 < 1000; decide, fun x H5 hx kx5 R5 => ?_⟩
    obtain ⟨sg, rfl, hs⟩ : ∃ sg : Int, x = .int sg ∧ (sg = 1 ∨ sg = -1) := by
      simp only [List.mem_cons, List.not_mem_nil, or_false] at hx
      rcases hx with rfl | rfl | rfl
      · exact ⟨1, rfl, .inl rfl⟩
      · exact ⟨1, rfl, .inl rfl⟩
      · exact ⟨-1, rfl, .inr rfl⟩
    refine ⟨_, _, rfl, rfl, .inr ⟨by omega, by omega⟩, k _ H5 ?_ (kxH3.trans ((Kx.of S4).trans kx5)) R5⟩
    show Num30 (r * sg)
    unfold Num30
    rcases hs with rfl | rfl <;> omega
end
end RS
namespace RS
open PySem L2 PySem.Spec PyProof.Rows
/-! ### min(xs, default = v) of a list of ints: the machine's loop, with a keyword handed along -/
section
variable {prog : Program} {w : World} {A : Around} {R : Result → Shared → Prop} {I : Addr} {fp wr : List Addr} {n : Nat} {Pn : Nat → Value → Prop} {Sn : Nat → Heap → Prop} {kw : List (Str × Value)}
theorem minLoopName : (toString "min" ++ toString ".loop" : String) = "min.loop" := by decide
theorem min_turns (W : Walks prog w A.in1 I fp wr n Pn Sn) (bt : Nat → Nat → Bool) (cmp : CmpOf prog w A.in1 .Lt Pn bt) (S : Addr) (nS : S ∉ fp) : ∀ (k j : Nat) (s : Shared) (vb : Value) (c : Nat),
    n - (j + 1) = k → j + 1 ≤ n → Sn (j + 1) s.heap → Pn (argBest bt j) vb → s.heap.get? S = some { cls := .type "list", dict := none, data := .seq #[vb, vb] c, slots := #[] } →
    (∀ v h' tk, Pn (argBest bt (n - 1)) v → (∀ b o, b ∉ wr → b ≠ S → s.heap.get? b = some o → h'.get? b = some o) →
      R (.ok (.ret v)) { s with heap := h', toks := tk }) →
    codeAny (model prog w) A (.builtin "min.loop" ⟨[.ref I, .none, .ref S], kw⟩) R s := by
  have nSw : S ∉ wr := fun z => nS (W.sub _ z)
  intro k
  induction k with
  | zero =>
    intro j s vb c ek hj st pb hS hR
    obtain rfl : n = j + 1 := by omega
    refine codeAny_builtin F.entry_min_loop ?_
    rw [Around.under_plainId F.plain_min_loop _]
    show wpAny _ A.in1 (seqItems? (Value.ref S) >>= _) _ _ s
    refine wpAny_bind (wpAny_seqItems hS rfl ?_)
    show wpAny _ A.in1 (tryCatch (pyNext (Value.ref I)) _ >>= _) _ _ s
    refine wpAny_bind (wpAny_tryCatch (W.done s _ _ st ?_))
    intro h' tk hk
    have hS2 := hk S _ nSw hS
    show wpAny _ A.in1 (updateSeq S (fun _ => (#[] : Array Value)) >>= _) _ _ _
    refine wpAny_bind (wpAny_updateSeq hS2 rfl (wpAny_bind (wpAny_letGo (wpAny_pure ?_))))
    exact hR vb _ tk pb fun b o nb nbS e => (Heap.get?_update_other _ _ (Ne.symm nbS)).trans (hk b o nb e)
  | succ k ih =>
    intro j s vb c ek hj st pb hS hR
    have lt : j + 1 < n := by omega
    refine codeAny_builtin F.entry_min_loop ?_
    rw [Around.under_plainId F.plain_min_loop _]
    show wpAny _ A.in1 (seqItems? (Value.ref S) >>= _) _ _ s
    refine wpAny_bind (wpAny_seqItems hS rfl ?_)
    show wpAny _ A.in1 (tryCatch (pyNext (Value.ref I)) _ >>= _) _ _ s
    refine wpAny_bind (wpAny_tryCatch (W.item (j + 1) s _ _ lt st ?_))
    intro v h' tk pv' st' hk
    have hS2 := hk S _ nSw hS
    show wpAny _ A.in1 (tryCatch (holding [v, v] (richCompare .Lt v vb >>= _)) _ >>= _) _ _ _
    refine wpAny_bind (wpAny_tryCatch (wpAny_holding (wpAny_bind (cmp (j + 1) (argBest bt j) v vb _ _ _ pv' pb ?_))))
    refine wpAny_bind (wpAny_holding (wpAny_truthy_bool (wpAny_bind (wpAny_letGo (wpAny_pure ?_)))))
    by_cases hb : bt (j + 1) (argBest bt j) = true
    · have eb : argBest bt (j + 1) = j + 1 := by unfold argBest; rw [if_pos hb]
      simp only [hb, if_true]
      refine wpAny_bind (wpAny_updateSeq hS2 rfl (wpAny_bind (wpAny_letGo ?_)))
      rw [minLoopName]
      refine wpAny_pure ⟨plainId_quiet F.plain_min_loop _, ih (j + 1) _ v _ (by omega) lt (W.frame _ _ _ st' fun b bf o e => ?_) (by rw [eb]; exact pv') (Heap.get?_update_self _ hS2 rfl) fun v2 h2 tk2 p2 k2 => ?_⟩
      · exact (Heap.get?_update_other _ _ (show S ≠ b from fun z => nS (by rw [z]; exact bf))).trans e
      · exact hR v2 h2 tk2 p2 fun b o nb nbS e => k2 b o nb nbS ((Heap.get?_update_other _ _ (Ne.symm nbS)).trans (hk b o nb e))
    · have eb : argBest bt (j + 1) = argBest bt j := by
        show (if bt (j + 1) (argBest bt j) then j + 1 else argBest bt j) = _
        rw [if_neg hb]
      simp only [hb, if_false, Bool.false_eq_true]
      refine wpAny_bind (wpAny_letGo ?_)
      rw [minLoopName]
      exact wpAny_pure ⟨plainId_quiet F.plain_min_loop _, ih (j + 1) _ vb c (by omega) lt st' (by rw [eb]; exact pb) hS2 fun v2 h2 tk2 p2 k2 => hR v2 h2 tk2 p2 fun b o nb nbS e => k2 b o nb nbS (hk b o nb e)⟩
theorem min_first (W : Walks prog w A.in1 I fp wr n Pn Sn) (bt : Nat → Nat → Bool) (cmp : CmpOf prog w A.in1 .Lt Pn bt) (S : Addr) (nS : S ∉ fp) (pos : 0 < n) {s : Shared} {c : Nat} (st : Sn 0 s.heap) (hS : s.heap.get? S = some { cls := .type "list", dict := none, data := .seq #[] c, slots := #[] })
    (hR : ∀ v h' tk, Pn (argBest bt (n - 1)) v → (∀ b o, b ∉ wr → b ≠ S → s.heap.get? b = some o → h'.get? b = some o) →
      R (.ok (.ret v)) { s with heap := h', toks := tk }) :
    codeAny (model prog w) A (.builtin "min.loop" ⟨[.ref I, .none, .ref S], kw⟩) R s := by
  have nSw : S ∉ wr := fun z => nS (W.sub _ z)
  refine codeAny_builtin F.entry_min_loop ?_
  rw [Around.under_plainId F.plain_min_loop _]
  show wpAny _ A.in1 (seqItems? (Value.ref S) >>= _) _ _ s
  refine wpAny_bind (wpAny_seqItems hS rfl ?_)
  show wpAny _ A.in1 (tryCatch (pyNext (Value.ref I)) _ >>= _) _ _ s
  refine wpAny_bind (wpAny_tryCatch (W.item 0 s _ _ pos st ?_))
  intro v h' tk pv' st' hk
  have hS2 := hk S _ nSw hS
  show wpAny _ A.in1 (updateSeq S (fun _ => #[v, v]) >>= _) _ _ _
  refine wpAny_bind (wpAny_updateSeq hS2 rfl ?_)
  rw [minLoopName]
  refine wpAny_pure ⟨plainId_quiet F.plain_min_loop _, min_turns W bt cmp S nS _ 0 _ v _ rfl pos (W.frame _ _ _ st' fun b bf o e => ?_) pv' (Heap.get?_update_self _ hS2 rfl) fun v2 h2 tk2 p2 k2 => ?_⟩
  · exact (Heap.get?_update_other _ _ (show S ≠ b from fun z => nS (by rw [z]; exact bf))).trans e
  · exact hR v2 h2 tk2 p2 fun b o nb nbS e => k2 b o nb nbS ((Heap.get?_update_other _ _ (Ne.symm nbS)).trans (hk b o nb e))
theorem min_none (W : Walks prog w A.in1 I fp wr 0 Pn Sn) (S : Addr) (nS : S ∉ fp) {x : Str} {d : Value} {s : Shared} {c : Nat} (st : Sn 0 s.heap) (hS : s.heap.get? S = some { cls := .type "list", dict := none, data := .seq #[] c, slots := #[] })
    (hR : ∀ h' tk, (∀ b o, b ∉ wr → s.heap.get? b = some o → h'.get? b = some o) → R (.ok (.ret d)) { s with heap := h', toks := tk }) :
    codeAny (model prog w) A (.builtin "min.loop" ⟨[.ref I, .none, .ref S], [(x, d)]⟩) R s := by
  refine codeAny_builtin F.entry_min_loop ?_
  rw [Around.under_plainId F.plain_min_loop _]
  show wpAny _ A.in1 (seqItems? (Value.ref S) >>= _) _ _ s
  refine wpAny_bind (wpAny_seqItems hS rfl ?_)
  show wpAny _ A.in1 (tryCatch (pyNext (Value.ref I)) _ >>= _) _ _ s
  refine wpAny_bind (wpAny_tryCatch (W.done s _ _ st ?_))
  intro h' tk hk
  exact wpAny_bind (wpAny_rule (wpAny_pure (hR h' tk hk)))
end
theorem args_dflt (a v : Value) : argsOk "min" ⟨[a], [(Str.ofString "default", v)]⟩ := by unfold argsOk; kernel_rfl
section
variable {prog : Program} {w : World} {A : Around} {E : Value → Shared → Prop} {s : Shared} {l : Addr} {xs : Array (Int × Tok)}
theorem min_default {Q : Value → Shared → Prop} (hh : A.handled = none) (hl : s.heap.IsList l (intItems xs))
    (h0 : xs.size = 0 → ∀ h' tk, (∀ b o, s.heap.get? b = some o → h'.get? b = some o) → Q .none { s with heap := h', toks := tk })
    (h1 : 0 < xs.size → ∀ v h' tk, (intItems xs)[argBest (fun i j => decide (numAt xs i < numAt xs j)) (xs.size - 1)]? = some v → (∀ b o, s.heap.get? b = some o → h'.get? b = some o) → Q v { s with heap := h', toks := tk }) :
    wpAny (model prog w) A (call (.builtin "min") [.ref l] [(Str.ofString "default", .none)]) Q E s := by
  refine PyProof.Rows.kmk_tree F.kind_min F.plain_min F.entry_min (args_dflt _ _) ?_
  show wpAny _ A.in1 (Builtin.Builtins.bindParams "min" ["key", "default"] 0 ⟨[], [(Str.ofString "default", Value.none)]⟩ >>= _) _ _ s
  refine wpAny_bind (wpAny_of_eq (show Builtin.Builtins.bindParams "min" ["key", "default"] 0 ⟨[], [(Str.ofString "default", Value.none)]⟩ = pure [none, some Value.none] from rfl) ?_)
  refine wpAny_bind (wpAny_pure (wpAny_bind (iter_intList hl ?_)))
  intro s2 es st hfp nlI
  subst es
  refine wpAny_bind (wpAny_newObj_type ?_)
  rw [minLoopName]
  have W := Walks.list (prog := prog) (w := w) (A := A.in1) hh s.heap.objs.size l nlI (intItems xs)
  have nS : (s.heap.push { cls := .type "list_iterator", data := .fields #[.ref l, .int 0 0] }).objs.size ∉ [s.heap.objs.size, l] := fun z => Nat.lt_irrefl _ (hfp _ z)
  have ez : (intItems xs).size = xs.size := by simp [intItems]
  have kept : ∀ h' : Heap, (∀ b o, b ∉ [s.heap.objs.size] → b ≠ (s.heap.push { cls := .type "list_iterator", data := .fields #[.ref l, .int 0 0] }).objs.size →
      ((s.heap.push { cls := .type "list_iterator", data := .fields #[.ref l, .int 0 0] }).push { cls := .type "list", data := .seq #[] 0 }).get? b = some o → h'.get? b = some o) →
      ∀ b o, s.heap.get? b = some o → h'.get? b = some o := fun h' hk => old_kept fun b o nb e => hk b o nb (Nat.ne_of_lt (Heap.lt_size e)) (Heap.get?_push_of_some _ e)
  rcases Nat.eq_zero_or_pos xs.size with hz | hz
  · rw [ez, hz] at W
    exact wpAny_pure ⟨plainId_quiet F.plain_min_loop _, min_none W _ nS (W.frame _ _ _ st fun b _ o e => Heap.get?_push_of_some _ e) (Heap.get?_push_size _ rfl) fun h' tk hk => h0 hz h' tk (kept h' fun b o nb _ e => hk b o nb e)⟩
  · refine wpAny_pure ⟨plainId_quiet F.plain_min_loop _, min_first W _ (CmpOf.ints_lt (numAt xs) fun _ _ => intItems_at) _ nS (by rw [ez]; exact hz) (W.frame _ _ _ st fun b _ o e => Heap.get?_push_of_some _ e) (Heap.get?_push_size _ rfl) fun v h' tk pv' hk => ?_⟩
    rw [ez] at pv'
    exact h1 hz v h' tk pv' (kept h' hk)
end
/-- the least of a list of ints, or nothing -/
def leastV (ns : List Int) : V → Prop := fun v => (ns = [] ∧ v = .non) ∨ ∃ m : Int, m ∈ ns ∧ (∀ y ∈ ns, m ≤ y) ∧ v = .int m
def rMinD (K : PySem.W.Frag) : List V → List V → Hp → VK → Prop := fun vs zs H Q => ∃ (a : Addr) (ns : List Int), vs = [V.ref a] ∧ zs = [V.non] ∧ SqL K H a (ns.map V.int) ∧ ∀ v, leastV ns v → Q v H
theorem cr_minD {X : Cx} (hc : X.calm = true) : CallRK X (.builtin "min") ["default"] (rMinD X.K) := by
  intro pins s σ H vs zs us ws Q I r rz h
  obtain ⟨a, ns, rfl, rfl, hs, q⟩ := h
  obtain ⟨its, rv, hl, _⟩ := I.list hs
  rw [Vals.ref1 r]
  obtain ⟨d, rfl, rd⟩ := vals1 rz
  cases (show d = Value.none from rd)
  have hi := rv.ints
  obtain ⟨xs, e⟩ := hi.allInts.items
  have hn : numsOf (intItems xs).toList = ns := by rw [← e]; exact hi.numsOf
  rw [nums_intItems] at hn
  subst hn
  have hl2 := hl.isList
  rw [e] at hl2
  refine min_default (I.ok.hd hc) hl2 (fun hz h' tk hk => ⟨.non, H, I.kept hk, rfl, q _ (.inl ⟨?_, rfl⟩)⟩) (fun hz v h' tk hv hk => ?_)
  · have : xs.toList.length = 0 := by simpa using hz
    rw [List.length_eq_zero_iff.mp this]
    rfl
  · obtain ⟨t, rfl⟩ := intItems_at hv
    obtain ⟨b1, b2⟩ := argBest_lt (numAt xs) (xs.size - 1)
    refine ⟨.int _, H, I.kept hk, ⟨_, rfl⟩, q _ (.inr ⟨_, ?_, fun y hy => ?_, rfl⟩)⟩
    · rw [numAt_eq]
      exact PySem.getD_mem (by rw [List.length_map, Array.length_toList]; omega)
    · obtain ⟨j, hj, rfl⟩ := mem_getD hy
      rw [List.length_map, Array.length_toList] at hj
      rw [← numAt_eq]
      exact b2 j (by omega)
end RS
namespace RS
open PySem L2 PySem.Spec PyProof.Rows PySem.W
/-! ### x != y where the class has an own __eq__ and no own __ne__ -/
section
variable {prog : Program} {w : World} {A : Around} {E : Value → Shared → Prop} {s : Shared} {K : Frag} {x y C f : Addr} {ox : Obj} {od : Option Obj}
theorem ne_body (hu : A.units < cLine) (X : K.In s.heap) (I : InstAt s.heap x ox C od) (he : findIn K (.ref C) "__eq__" = some (some (.ref f))) (hf : isFn K (.ref f) = true) {Q : Fin → Shared → Prop}
    (h : wpAny (model prog w) A (call (.ref f) [.ref x, .ref y]) (fun v s' => ∃ b, v = .bool b ∧ Q (.done (.ret (.bool (!b)))) s') E s) :
    wpAny (model prog w) A (Builtin.«object.__ne__» ⟨[.ref x, .ref y], []⟩) Q E s := by
  unfold Builtin.«object.__ne__»
  obtain ⟨hp, g, d, t, os⟩ := s
  repeat (first
    | with_reducible refine wpAny_cRoomFor hu ?_
    | (refine wpAny_bind (m := callSpecialIfBound? (.ref x) (Str.ofString "__eq__") [.ref y]) (ifBound_K X I he hf (wpAny_mono h (fun r s' hr => by
          obtain ⟨b, rfl, hq⟩ := hr
          repeat (first | exact hq | exact wpAny_pure hq | exact wpAny_truthy_bool hq | (refine wpAny_bind (m := truthy (.bool _)) (wpAny_truthy_bool ?_)) | wp_step)) fun _ _ e => e)))
    | wp_step)
theorem ne_check (X : K.In s.heap) (I : InstAt s.heap x ox C od) (hm : mroIn K C (.type "object") = some true) {Q : Unit → Shared → Prop} (h : Q () s) :
    wpAny (model prog w) A (checkBuiltinCall "object.__ne__" ⟨[.ref x, .ref y], []⟩) Q E s := by
  have ha := F.cmpArgs_ne (.ref x) (.ref y)
  obtain ⟨hp, g, d, t, os⟩ := s
  have L0 := I.type (M := model prog w)
  have L1 := looks_mroIn (M := model prog w) X hm
  simp only [checkBuiltinCall, F.cmpKind_ne, F.cmpSplit_ne]
  refine wpAny_bind ?_
  unfold isInstance
  repeat lk
  exact h
theorem ne_try (hu : A.units + 1 < cLine) (X : K.In s.heap) (I : InstAt s.heap x ox C od) (hn : findIn K (.ref C) "__ne__" = some (some (.builtin "object.__ne__"))) (he : findIn K (.ref C) "__eq__" = some (some (.ref f))) (hf : isFn K (.ref f) = true) (hm : mroIn K C (.type "object") = some true)
    {Q : Option Value → Shared → Prop} (h : wpAny (model prog w) A.in1 (call (.ref f) [.ref x, .ref y]) (fun v s' => ∃ b, v = .bool b ∧ Q (some (.bool (!b))) s') E s) :
    wpAny (model prog w) A (tryCompare (.ref x) "__ne__" (.ref y)) Q E s := by
  unfold tryCompare
  have back : wpAny (model prog w) A (call (.builtin "object.__ne__") [.ref x, .ref y]) (fun v s' => ∃ b, v = .bool b ∧ Q (some (.bool b)) s') E s := by
    refine wpAny_call (codeAny_call_builtin F.cmp_object.ne.plain F.cmpEntry_ne (ne_check X I hm (ne_body (A := A.in1) hu X I he hf (wpAny_mono h (fun v s' hv => ?_) fun _ _ e => e))))
    obtain ⟨b, rfl, hq⟩ := hv
    exact ⟨b, rfl, ⟨!b, rfl, hq⟩⟩
  refine wpAny_bind (m := callSpecialIfBound? (.ref x) (Str.ofString "__ne__") [.ref y]) ?_
  simp only [callSpecialIfBound?, bindSpecialIfBound?]
  refine wpAny_holding (wpAny_bind (wpAny_bind (wpAny_bind (I.type.here ((looks_findIn X hn).here ?_)))))
  simp only [F.cmp_object.ne.bind]
  refine wpAny_bind (wpAny_askSetting (wpAny_ite ?_))
  have fin : ∀ Z : Option Value → Shared → Prop, (∀ b s', Q (some (.bool b)) s' → Z (some (.bool b)) s') → wpAny (model prog w) A (call (.builtin "object.__ne__") ([.ref x] ++ [.ref y]) >>= fun v => pure (some v)) Z E s := by
    intro Z hZ
    refine wpAny_bind (wpAny_mono back (fun v s' hv => wpAny_pure ?_) fun _ _ e => e)
    obtain ⟨b, rfl, hq⟩ := hv
    exact hZ b s' hq
  split
  · exact wpAny_bind (wpAny_pure (wpAny_pure (by exact fin _ fun b s' hq => wpAny_pure hq)))
  · exact wpAny_tryCatch (wpAny_bind (wpAny_pure (wpAny_pure (by exact fin _ fun b s' hq => wpAny_pure hq))))
theorem ne_rich (hu : A.units + 1 < cLine) (X : K.In s.heap) {oy : Obj} {oz : Option Obj} (I : InstAt s.heap x ox C od) (J : InstAt s.heap y oy C oz) (hn : findIn K (.ref C) "__ne__" = some (some (.builtin "object.__ne__"))) (he : findIn K (.ref C) "__eq__" = some (some (.ref f))) (hf : isFn K (.ref f) = true)
    (hm : mroIn K C (.type "object") = some true) {Q : Value → Shared → Prop} (h : wpAny (model prog w) A.in1 (call (.ref f) [.ref x, .ref y]) (fun v s' => ∃ b, v = .bool b ∧ Q (.bool (!b)) s') E s) :
    wpAny (model prog w) A (richCompare .NotEq (.ref x) (.ref y)) Q E s := by
  unfold richCompare
  simp only [oneThing_ref]
  refine wpAny_holding (wpAny_bind (wpAny_cRoomFor (Nat.lt_of_succ_lt hu) ?_))
  refine wpAny_bind (I.type.here (wpAny_bind (J.type.here ?_)))
  rw [show (Value.ref C != Value.ref C) = false by simp]
  simp only [Bool.false_eq_true, if_false]
  refine wpAny_bind (wpAny_pure ?_)
  simp only [Bool.false_eq_true, if_false]
  refine wpAny_bind (ne_try hu X I hn he hf hm (wpAny_mono h (fun v s' hv => ?_) fun _ _ e => e))
  obtain ⟨b, rfl, hq⟩ := hv
  exact ⟨b, rfl, wpAny_pure hq⟩
end
/-- == and != of two own instances by their class's own __eq__, whose promise is spOwn: R tells the answer -/
def spOwn (R : Addr → Addr → Hp → Bool → Prop) : Sp := fun vs H Q _ => ∃ a b r, vs = [.ref a, .ref b] ∧ R a b H r ∧ ∀ H', Same H H' → Q (.bl r) H'
structure OwnEq (K : Frag) (C f : Addr) : Prop where
  eq : findIn K (.ref C) "__eq__" = some (some (.ref f))
  ne : findIn K (.ref C) "__ne__" = some (some (.builtin "object.__ne__"))
  fn : isFn K (.ref f) = true
  ob : mroIn K C (.type "object") = some true
def rOwn (C : Addr) (R : Addr → Addr → Hp → Bool → Prop) (neg : Bool) : R2 := fun x y H Q => ∃ a b dx dy fs gs r, x = .ref a ∧ y = .ref b ∧ H a = some (.ins C dx fs) ∧ H b = some (.ins C dy gs) ∧ R a b H r ∧ ∀ H', Same H H' → Q (.bl (if neg then !r else r)) H'
section
variable {X : Cx} {n : Nat} {CX : CXT} {C f : Addr} {fd : FuncData} {ps : List Str} {R : Addr → Addr → Hp → Bool → Prop} {E : XK}
theorem own_call (F : FnOk X.prog X.w X.K X.mg X.base CX n f fd ps (spOwn R)) (hb : Binds X.K fd ps []) (hx : Passes CX X E) {A : Around} (hr : Room n A) (hfr : A.frames = X.A.frames) {pins : List (Addr × Obj)} {σ : L2.St} {H : Hp} {s : Shared} {a b : Addr} {r : Bool} {Q : VK} (I : Inv X pins σ H s) (hR : R a b H r) (q : ∀ H', Same H H' → Q (.bl r) H') :
    wpAny (model X.prog X.w) A (call (.ref f) [.ref a, .ref b]) (fun v s' => v = .bool r ∧ ∃ H', Inv X pins σ H' s' ∧ Q (.bl r) H') X.xe s := by
  have hsp : spOwn R [.ref a, .ref b] H (fun v H' => v = .bl r ∧ Q (.bl r) H') E := ⟨a, b, r, rfl, hR, fun H' e => ⟨rfl, q H' e⟩⟩
  have e0 : Env0 X.prog X.w X.K X.mg X.base A X.stack s H := by
    have e := I.env0
    exact ⟨by rw [hfr]; exact e.frames, e.mod, e.bs, e.bsz, e.funs, e.frf, e.hok, e.bare⟩
  have hl := F.len _ _ _ _ hsp
  have hbb := hb s [.ref a, .ref b] I.kIn (by simpa using hl)
  have r2 : Vals [V.ref a, V.ref b] [Value.ref a, Value.ref b] := .cons rfl (.cons rfl .nil)
  refine wpAny_call (codeAny_mono (F.run A X.stack s H ⟨[.ref a, .ref b], []⟩ [.ref a, .ref b] [.ref a, .ref b] _ E hr e0 (by simpa using hbb) r2 hsp) ?_)
  intro z s' hq
  cases z with
  | error e => exact hx pins σ H s e s' I hq
  | ok fl =>
    cases fl with
    | ret w =>
      obtain ⟨v, H', I', rz, ez, qq⟩ := I.after hq
      subst ez
      exact ⟨rz, H', I', qq⟩
    | next => exact hq.elim
    | brk => exact hq.elim
    | cont => exact hq.elim
theorem op_eqOwn (F : FnOk X.prog X.w X.K X.mg X.base CX n f fd ps (spOwn R)) (hb : Binds X.K fd ps []) (hx : Passes CX X E) (O : OwnEq X.K C f) (hr : Room n X.A) : OpR X (compareOp .Eq) (rOwn C R false) := by
  intro pins s σ H x y u v Q I rx ry h
  obtain ⟨a, b, dx, dy, fs, gs, r, rfl, rfl, ha, hb', hR, q⟩ := h
  cases rx
  cases ry
  obtain ⟨mA, J, _⟩ := ins_get I.hok ha
  obtain ⟨mB, J', _⟩ := ins_get I.hok hb'
  obtain ⟨od, J, _⟩ := J.look
  obtain ⟨od', J', _⟩ := J'.look
  obtain ⟨m, hF⟩ := I.fr
  show wpAny (model X.prog X.w) X.A (richCompare .Eq (.ref a) (.ref b)) (EP X pins σ Q) X.xe s
  refine PySem.W.cmp_K (op := .Eq) (tb := .ref C) hr.units0 hF I.ok.mod.kin J J'.type (by simp [PySem.W.notFirst]) O.eq O.fn (wpAny_mono (own_call F hb hx hr rfl I hR q) (fun v s' z => ?_) fun _ _ e => e)
  obtain ⟨rfl, H', I', qq⟩ := z
  exact ⟨.bl r, H', I', rfl, qq⟩
theorem op_neOwn (F : FnOk X.prog X.w X.K X.mg X.base CX n f fd ps (spOwn R)) (hb : Binds X.K fd ps []) (hx : Passes CX X E) (O : OwnEq X.K C f) (hr : Room (n + 1) X.A) : OpR X (compareOp .NotEq) (rOwn C R true) := by
  intro pins s σ H x y u v Q I rx ry h
  obtain ⟨a, b, dx, dy, fs, gs, r, rfl, rfl, ha, hb', hR, q⟩ := h
  cases rx
  cases ry
  obtain ⟨mA, J, _⟩ := ins_get I.hok ha
  obtain ⟨mB, J', _⟩ := ins_get I.hok hb'
  obtain ⟨od, J, _⟩ := J.look
  obtain ⟨od', J', _⟩ := J'.look
  have hu := hr.units0
  show wpAny (model X.prog X.w) X.A (richCompare .NotEq (.ref a) (.ref b)) (EP X pins σ Q) X.xe s
  refine ne_rich (by have := hr.un; omega) I.kIn J J' O.ne O.eq O.fn O.ob (wpAny_mono (own_call (Q := fun _ H' => Q (.bl (!r)) H') F hb hx hr.in1 rfl I hR q) (fun v s' z => ?_) fun _ _ e => e)
  obtain ⟨rfl, H', I', qq⟩ := z
  exact ⟨r, rfl, .bl (!r), H', I', rfl, qq⟩
end
end RS
namespace RS
open PySem L2
section
variable {P : Program} {w : World} {K : PySem.W.Frag} {mg : Str → Option Value} {base : Heap}
/-! ### Rule.__eq__ -/
def EqR (C : Addr) : Addr → Addr → Hp → Bool → Prop := fun a b H r => ∃ (g t o g' t' o' : Addr) (gs gs' : List Int) (tl : Tl), RuleAt C H a g t o gs tl ∧ RuleAt C H b g' t' o' gs' tl ∧ r = decide (gs = gs')
def tlD : Tl → List PyData
  | .fin => [.str "end"]
  | .times b => [.str "times", .int b]
  | .rep n => [.str "repeat", .int (n : Int)]
theorem tl_dp {K : PySem.W.Frag} {H : Hp} : ∀ tl : Tl, DpAll K H tl.vs (tlD tl)
  | .fin => .cons (.str _) .nil
  | .times b => .cons (.str _) (.cons (.int b) .nil)
  | .rep n => .cons (.str _) (.cons (.int _) .nil)
theorem okE : PyData.strOk ("end" : Str) = true := by decide +kernel
theorem okT : PyData.strOk ("times" : Str) = true := by decide +kernel
theorem okR : PyData.strOk ("repeat" : Str) = true := by decide +kernel
theorem tl_shaped (tl : Tl) : SeqAt.shaped (.tuple (tlD tl)) = true := by
  cases tl <;> simp [tlD, SeqAt.shaped, PyData.canLay0, PyData.canLayAll0, PyData.depth, PyData.depthAll, okE, okT, okR]
theorem tl_eqv (tl : Tl) : PyData.eqv (.tuple (tlD tl)) (.tuple (tlD tl)) = true := by
  cases tl <;> simp [tlD, PyData.eqv, PyData.eqvAll]
theorem scEq : FnScope ["self", "other"] ["self", "other"] (defScope s_Rule_ddeqdd) := ⟨rfl, rfl, rfl, by decide +kernel, rfl, by decide +kernel, by decide +kernel⟩
theorem rdG2 {te : TE} {C p g t o : Addr} {gs : List Int} {tl : Tl} {H : Hp} {σ : L2.St} {i : Nat} {r : R2} {Q : VK} (T : Txt K mg C) (R : RuleAt C H p g t o gs tl) (hi : σ[i]? = some (some (.ref p))) (q : te σ H fun y H2 => r (.ref g) y H2 Q) : tOp r (tFld K (tVar i) "_gaps") te σ H Q := by
  dsimp only [tOp]
  exact rdG T R hi q
theorem rdT2 {te : TE} {C p g t o : Addr} {gs : List Int} {tl : Tl} {H : Hp} {σ : L2.St} {i : Nat} {r : R2} {Q : VK} (T : Txt K mg C) (R : RuleAt C H p g t o gs tl) (hi : σ[i]? = some (some (.ref p))) (q : te σ H fun y H2 => r (.ref t) y H2 Q) : tOp r (tFld K (tVar i) "_tail") te σ H Q := by
  dsimp only [tOp]
  exact rdT T R hi q
theorem ok_eq {f C : Addr} {fd : FuncData} (F : Fun K "__eq__" "Rule.__eq__" s_Rule_ddeqdd f fd) (T : Txt K mg C) (c : C8.InsC K C) : FnOk P w K mg base CX0 1 f fd ["self", "other"] (spOwn (EqR C)) := by
  refine F.ok scEq (fun vs H Q E h => ?_) (fun cdv A outer s H vs Q E hr h => ?_)
  · obtain ⟨a, b, r, rfl, _⟩ := h
    rfl
  · obtain ⟨a, b, r, rfl, ⟨g, t, o, g', t', o', gs, gs', tl, R, R', rfl⟩, k⟩ := h
    refine ⟨_, (pss_one (ps_ret (pe_and (pe_callB (C8.call_isC c) (by rfl) T.isi (by decide +kernel) (pa_cons (pv 1) (pa_cons (pe_glob (v := .ref C) rfl T.mgC rfl) pa_nil))) (pe_and (pe_cmpR (op_eqD hr.units) (pe_fld (pv 0) rfl) (pe_fld (pv 1) rfl) (nomark _)) (pe_one (pe_cmpR (op_eqD hr.units) (pe_fld (pv 0) rfl) (pe_fld (pv 1) rfl) (nomark _))))))), ?_⟩
    obtain ⟨dx', hob'⟩ := R'.ob
    refine ⟨_, rfl, b, dx', _, rfl, hob', true, rfl, iteT ?_⟩
    dsimp only [tAndV]
    refine rdG2 T R rfl ?_
    refine rdG T R' rfl ?_
    refine ⟨_, _, list_dp (SqL.of R.hg), list_dp (SqL.of R'.hg), PySem.W.ke_shaped_ints gs, PySem.W.ke_shaped_ints gs', _, rfl, ?_⟩
    rw [list_eqv]
    by_cases e : gs = gs'
    · refine iteTb (decide_eq_true e) ?_
      refine rdT2 T R rfl ?_
      refine rdT T R' rfl ?_
      refine ⟨_, _, .tup (SqT.of R.ht) (tl_dp tl), .tup (SqT.of R'.ht) (tl_dp tl), tl_shaped tl, tl_shaped tl, ?_⟩
      rw [tl_eqv]
      have k2 := k H (Same.refl H)
      rw [decide_eq_true e] at k2
      exact k2
    · refine iteFb (decide_eq_false e) ?_
      have k2 := k H (Same.refl H)
      rw [decide_eq_false e] at k2
      exact k2
end
end RS
namespace RS
open PySem L2
/-! ### slices -/
theorem cut_to (xs : List V) (n : Nat) : cutV xs none (some (n : Int)) = xs.take n := by
  unfold cutV
  rw [HT.sIx_none, HT.sIx_nat, List.drop_zero, Nat.sub_zero]
  by_cases h : n ≤ xs.length
  · rw [Nat.min_eq_left h]
  · rw [Nat.min_eq_right (by omega), List.take_length, List.take_of_length_le (by omega)]
theorem cut_mid (xs : List V) (i n : Nat) : cutV xs (some (i : Int)) (some (n : Int)) = (xs.drop i).take (n - i) := by
  unfold cutV
  rw [HT.sIx_nat, HT.sIx_nat]
  by_cases h : i ≤ xs.length
  · rw [Nat.min_eq_left h]
    by_cases h2 : n ≤ xs.length
    · rw [Nat.min_eq_left h2]
    · rw [Nat.min_eq_right (by omega), List.take_of_length_le (by rw [List.length_drop]; exact Nat.le_refl _), List.take_of_length_le (by rw [List.length_drop]; omega)]
  · rw [show min i xs.length = xs.length by omega, List.drop_of_length_le (Nat.le_refl _), List.drop_of_length_le (show xs.length ≤ i by omega)]
    simp
theorem cut_back (xs : List V) {m : Nat} (h0 : 0 < m) (h : m ≤ xs.length) : cutV xs (some (-(m : Int))) none = xs.drop (xs.length - m) := by
  have e : HT.sIx xs.length 0 (some (-(m : Int))) = xs.length - m := by
    show (if -(m : Int) < 0 then (-(m : Int) + (xs.length : Int)).toNat else min (-(m : Int)).toNat xs.length) = _
    rw [if_pos (by omega)]
    omega
  unfold cutV
  rw [e, HT.sIx_none, List.take_of_length_le (by rw [List.length_drop]; exact Nat.le_refl _)]
theorem cut_from (xs : List V) {i : Nat} (h : i ≤ xs.length) : cutV xs (some (i : Int)) none = xs.drop i := by
  unfold cutV
  rw [HT.sIx_nat, HT.sIx_none, Nat.min_eq_left h, List.take_of_length_le (by rw [List.length_drop]; exact Nat.le_refl _)]
end RS
namespace RS
open PySem L2
/-! ### lists of pairs as data -/
def winD (ws : List (Int × Int)) : List PyData := ws.map fun p => .tuple [.int p.1, .int p.2]
theorem win_can : ∀ ws : List (Int × Int), PyData.canLayAll0 (winD ws) = true
  | [] => rfl
  | p :: r => by
    show (PyData.canLay0 _ && PyData.canLayAll0 (winD r)) = true
    rw [win_can r]
    rfl
theorem win_depth : ∀ ws : List (Int × Int), PyData.depthAll (winD ws) ≤ 1
  | [] => by decide
  | p :: r => by
    have := win_depth r
    show max 1 (PyData.depthAll (winD r)) ≤ 1
    omega
theorem win_shaped (ws : List (Int × Int)) : SeqAt.shaped (.list (winD ws)) = true := by
  have h1 := win_can ws
  have h2 := win_depth ws
  show (PyData.canLayAll0 (winD ws) && decide (PyData.depthAll (winD ws) + 1 ≤ 64)) = true
  rw [h1, decide_eq_true (by omega)]
  rfl
theorem win_eqv : ∀ ws vs : List (Int × Int), PyData.eqvAll (winD ws) (winD vs) = decide (ws = vs)
  | [], [] => rfl
  | [], _ :: _ => rfl
  | _ :: _, [] => rfl
  | (a, b) :: r, (c, d) :: s => by
    show PyData.eqvAll (.tuple [.int a, .int b] :: winD r) (.tuple [.int c, .int d] :: winD s) = _
    have := win_eqv r s
    simp only [PyData.eqvAll, PyData.eqv, this]
    by_cases h1 : a = c <;> by_cases h2 : b = d <;> by_cases h3 : r = s <;> simp [h1, h2, h3]
theorem win_eqvL (ws vs : List (Int × Int)) : PyData.eqv (.list (winD ws)) (.list (winD vs)) = decide (ws = vs) := win_eqv ws vs
theorem tupsI_dp {K : PySem.W.Frag} {H : Hp} : ∀ {rs : List Addr} {ps : List (Int × Int)}, TupsI H rs ps → DpAll K H (rs.map V.ref) (winD ps)
  | [], [], _ => .nil
  | [], _ :: _, t => nomatch t.1
  | _ :: _, [], t => nomatch t.1
  | r :: rs, p :: ps, t => by
    obtain ⟨r', e1, e2⟩ := t.2 0 p rfl
    cases (Option.some.inj e1 : r = r')
    exact .cons (.tup (SqT.of e2) (.cons (.int _) (.cons (.int _) .nil))) (tupsI_dp ⟨Nat.succ.inj t.1, fun j q e => t.2 (j + 1) q e⟩)
/-- one turn of a block that makes texts -/
theorem strs_turn {H H' : Hp} {D : Addr} {ws : List Str} {i : Nat} {u : Str} (hD : H D = none) (hu : ws[i]? = some u) (hl : ws.length ≤ 900) (p : Same H H' ∧ H' D = some (.lst ((ws.take i).map V.str))) :
    ∃ acc, H' D = some (.lst acc) ∧ acc.length < sizeLine ∧ Same H (upd H' D (.lst (acc ++ [V.str u]))) ∧ (upd H' D (.lst (acc ++ [V.str u]))) D = some (.lst ((ws.take (i + 1)).map V.str)) := by
  refine ⟨_, p.2, ?_, fun b o e => ?_, ?_⟩
  · rw [List.length_map, List.length_take]
    exact small1000 (by omega)
  · rw [upd_ne (ne_of_none e hD)]
    exact p.1 b o e
  · rw [upd_same, List.take_add_one, hu, List.map_append]
    rfl
theorem Src.nt {H : Hp} {a r : Addr} {b : Nat} {xs : List V} (S : Src H a b) (h : H r = some (.tup xs)) : r ≠ a := by
  obtain ⟨s0, s1, s2, h1, _⟩ := S.ex
  exact ne_of h h1 (by intro z; cases z)
theorem TupsI.kxs {H H' : Hp} {rs : List Addr} {ps : List (Int × Int)} {a : Addr} {b : Nat} (t : TupsI H rs ps) (S : Src H a b) (kx : Kx a H H') : TupsI H' rs ps := t.kx fun r xs e => kx r _ (S.nt e) e
theorem TupsI.same {H H' : Hp} {rs : List Addr} {ps : List (Int × Int)} (t : TupsI H rs ps) (S : Same H H') : TupsI H' rs ps := t.kx fun r xs e => S r _ e
theorem ne_strs (a : Str) : (!decide (V.str a = V.str a)) = false := by rw [decide_eq_true rfl]; rfl
end RS
namespace RS
open PySem L2
def klN : List Str := ["_law_script", "_law_cell", "_law_source", "_law_steps", "_law_ending", "_law_words", "_law_plan", "_law_entries", "_law_kept", "_law_line", "_law_step", "_law_part", "_law_k", "_law_slot", "_law_many"]
theorem scLaw : FnScope klN ["_law_script"] (defScope s_law) := ⟨rfl, rfl, rfl, by decide +kernel, rfl, by decide +kernel, by decide +kernel⟩
section
variable {P : Program} {w : World} {K : PySem.W.Frag} {mg : Str → Option Value} {base : Heap}
theorem ok_law {f C fI fCell fSrc fSpec fN fNb fFm fPR fFL fPL fEq : Addr} {fd fdI fdCell fdSrc fdSpec fdN fdNb fdFm fdPR fdFL fdPL fdEq : FuncData} (F : Fun K "law" "law" s_law f fd) (T : Txt K mg C) (M : Mk K C fI) (GI : FnOk P w K mg base CX0 3 fI fdI ["self", "gaps", "tail"] (spInit C)) (bI : Binds K fdI ["self", "gaps", "tail"] [])
    (GCell : FnOk P w K mg base CX0 1 fCell fdCell ["_law_script", "_law_k"] (spCell K)) (bCell : Binds K fdCell ["_law_script", "_law_k"] []) (mCell : mg "_law_cell_at" = some (.ref fCell)) (kCell : PySem.W.keepIn K (.ref fCell) = true)
    (GSrc : FnOk P w K mg base CX0 1 fSrc fdSrc ["_law_cell"] spSrcOf) (bSrc : Binds K fdSrc ["_law_cell"] []) (mSrc : mg "_law_source_of" = some (.ref fSrc)) (kSrc : PySem.W.keepIn K (.ref fSrc) = true)
    (GSpec : FnOk P w K mg base CX0 3 fSpec fdSpec ["_law_source"] spSpec) (bSpec : Binds K fdSpec ["_law_source"] []) (mSpec : mg "_law_spec" = some (.ref fSpec)) (kSpec : PySem.W.keepIn K (.ref fSpec) = true)
    (GN : FnOk P w K mg base CX0 1 fN fdN ["_law_source", "_law_many"] spNext) (bN : Binds K fdN ["_law_source", "_law_many"] []) (mN : mg "_law_next" = some (.ref fN)) (kN : PySem.W.keepIn K (.ref fN) = true)
    (GNb : FnOk P w K mg base CX0 3 fNb fdNb ["_law_source"] spNb) (bNb : Binds K fdNb ["_law_source"] []) (mNb : mg "_law_number" = some (.ref fNb)) (kNb : PySem.W.keepIn K (.ref fNb) = true)
    (GFm : FnOk P w K mg base CX0 2 fFm fdFm ["rule"] (spFm C)) (bFm : Binds K fdFm ["rule"] []) (mFm : mg "format_rule" = some (.ref fFm)) (kFm : PySem.W.keepIn K (.ref fFm) = true) (nFm : KBn K fdFm ["rule"] 0 ["rule"] (fun us ws => us ++ ws) (fun vs zs => vs ++ zs))
    (GPR : FnOk P w K mg base CX0 5 fPR fdPR ["text"] (spPR C)) (bPR : Binds K fdPR ["text"] []) (mPR : mg "parse_rule" = some (.ref fPR)) (kPR : PySem.W.keepIn K (.ref fPR) = true) (nPR : KBn K fdPR ["text"] 0 ["text"] (fun us ws => us ++ ws) (fun vs zs => vs ++ zs))
    (GFL : FnOk P w K mg base CX0 3 fFL fdFL ["log"] spFL) (bFL : Binds K fdFL ["log"] []) (mFL : mg "format_log" = some (.ref fFL)) (kFL : PySem.W.keepIn K (.ref fFL) = true) (nFL : KBn K fdFL ["log"] 0 ["log"] (fun us ws => us ++ ws) (fun vs zs => vs ++ zs))
    (GPL : FnOk P w K mg base CX0 4 fPL fdPL ["text"] spPL) (bPL : Binds K fdPL ["text"] []) (mPL : mg "parse_log" = some (.ref fPL)) (kPL : PySem.W.keepIn K (.ref fPL) = true) (nPL : KBn K fdPL ["text"] 0 ["text"] (fun us ws => us ++ ws) (fun vs zs => vs ++ zs))
    (GEq : FnOk P w K mg base CX0 1 fEq fdEq ["self", "other"] (spOwn (EqR C))) (bEq : Binds K fdEq ["self", "other"] []) (oEq : OwnEq K C fEq) :
    FnOk P w K mg base CX0 6 f fd ["_law_script"] (spLaw K) := by
  refine F.ok scLaw (fun vs H Q E h => ?_) (fun cdv A outer s H vs Q E hr h => ?_)
  · obtain ⟨a, ns, rfl, _⟩ := h
    rfl
  · obtain ⟨sc, ns, rfl, hs, hn63, k⟩ := h
    have hr1 := hr.mono (show 1 ≤ 5 by decide)
    have hr2 := hr.mono (show 2 ≤ 5 by decide)
    have hr3 := hr.mono (show 3 ≤ 5 by decide)
    have hr4 := hr.mono (show 4 ≤ 5 by decide)
    refine ⟨_, (pss_cons (ps_for PassesOwn.never rfl (pi_list (pe_op op_cat (pe_lst (pa_cons (pe_call GCell hr1 rfl mCell kCell bCell .nil pass0 (pa_cons (pv 0) (pa_cons pe_int pa_nil))) pa_nil)) (pe_slice sl_list (pv 0) (po_some pe_int) (po_some pe_int)))) (pg_name (i := 1) scLaw.nd rfl (Or.inl rfl)) (pss_cons (ps_set (i := 2) scLaw.nd rfl (Or.inr rfl) (pe_call GSrc hr1 rfl mSrc kSrc bSrc .nil pass0 (pa_cons (pv 1) pa_nil))) (pss_cons (ps_asg (pe_call GSpec hr3 rfl mSpec kSpec bSpec .nil pass0 (pa_cons (pv 2) pa_nil)) (pg_tup rfl (pgs_cons (pg_name (i := 3) scLaw.nd rfl (Or.inl rfl)) (pgs_cons (pg_name (i := 4) scLaw.nd rfl (Or.inl rfl)) pgs_nil)))) (pss_cons (ps_set (i := 5) scLaw.nd rfl (Or.inl rfl) (pe_op op_cat (pe_lc (own := [("_law_step", 10)]) (g := gName 10) (tt := tYes) rfl scLaw.nd (pi_list (pv 3)) (blkOk_by (own := [("_law_step", 10)]) (N := klN) (sc := (defScope s_law)) (by decide +kernel)) (fun _ _ _ _ _ => (pg_name (i := 10) scLaw.nd rfl (Or.inl rfl))) (fun _ _ _ _ _ => pts_nil) (fun _ _ _ _ _ => (pe_callTy call_str_any (by rfl) T.str (by decide +kernel) (pa_cons (pv 10) pa_nil)))) (pe_lc (own := [("_law_part", 11)]) (g := gName 11) (tt := tYes) rfl scLaw.nd (pi_tup (pv 4)) (blkOk_by (own := [("_law_part", 11)]) (N := klN) (sc := (defScope s_law)) (by decide +kernel)) (fun _ _ _ _ _ => (pg_name (i := 11) scLaw.nd rfl (Or.inl rfl))) (fun _ _ _ _ _ => pts_nil) (fun _ _ _ _ _ => (pe_callTy call_str_any (by rfl) T.str (by decide +kernel) (pa_cons (pv 11) pa_nil)))))) (pss_cons (ps_set (i := 6) scLaw.nd rfl (Or.inl rfl) (pe_make M GI hr4 rfl T.mgC bI .nil pass0 (pa_cons (pv 3) (pa_cons (pv 4) pa_nil)))) (pss_cons (ps_if (PW.pt (pw_or (pt_cmpR op_ne (pe_call GFm hr2 rfl mFm kFm bFm .nil pass0 (pa_cons (pv 6) pa_nil)) (pe_join pe_str (pv 5)) (nomark _)) (pw_or1 (pt_cmpR (op_neOwn GEq bEq pass0 oEq hr2) (pe_call GPR hr rfl mPR kPR bPR .nil pass0 (pa_cons (pe_join pe_str (pv 5)) pa_nil)) (pv 6) (nomark _))))) (pss_one (ps_ret pe_bl)) pss_nil) (pss_cons (ps_if (pt_cmpR op_ne (pe_defK0 GFm hr2 rfl mFm kFm nFm pass0 (pk_cons (pe_defK0 GPR hr rfl mPR kPR nPR pass0 (pk_cons (pe_join pe_str (pv 5)) pk_nil)) pk_nil)) (pe_join pe_str (pv 5)) (nomark _)) (pss_one (ps_ret pe_bl)) pss_nil) (pss_cons (ps_setLc (i := 7) (own := [("_law_k", 12)]) (g := gName 12) (tt := tYes) (by rfl) scLaw.nd rfl rfl (sw_true rfl rfl rfl (by decide +kernel)) (pi_range1 rfl T.range (pa_cons (pe_call GN hr1 rfl mN kN bN .nil pass0 (pa_cons (pv 2) (pa_cons pe_int pa_nil))) pa_nil)) (blkOk_by (own := [("_law_k", 12)]) (N := klN) (sc := (defScope s_law)) (by decide +kernel)) (fun _ _ _ _ _ => (pg_name (i := 12) scLaw.nd rfl (Or.inl rfl))) (fun _ _ _ _ _ => pts_nil) (fun _ _ _ _ _ => (pe_tup (pa_cons (pe_call GNb hr3 rfl mNb kNb bNb .nil pass0 (pa_cons (pv 2) pa_nil)) (pa_cons (pe_call GNb hr3 rfl mNb kNb bNb .nil pass0 (pa_cons (pv 2) pa_nil)) pa_nil))))) (pss_cons (ps_set (i := 8) scLaw.nd rfl (Or.inl rfl) (pe_callTy call_list_of (by rfl) T.list (by decide +kernel) (pa_cons (pv 7) pa_nil))) (pss_cons (ps_set (i := 9) scLaw.nd rfl (Or.inl rfl) (pe_join pe_str (pe_lc (own := [("_law_slot", 13), ("_law_many", 14)]) (g := gTup K 2 (gCons (gName 13) (gCons (gName 14) gNil))) (tt := tYes) rfl scLaw.nd (pi_list (pv 7)) (blkOk_by (own := [("_law_slot", 13), ("_law_many", 14)]) (N := klN) (sc := defScope s_law) (by decide +kernel))
            (fun _ _ _ _ _ => pg_tup rfl (pgs_cons (pg_name (i := 13) scLaw.nd rfl (Or.inl rfl)) (pgs_cons (pg_name (i := 14) scLaw.nd rfl (Or.inl rfl)) pgs_nil))) (fun _ _ _ _ _ => pts_nil) (fun _ _ _ _ _ => (pe_op op_add_str (pe_op op_add_str (pe_callTy call_str_int (by rfl) T.str (by decide +kernel) (pa_cons (pv 13) pa_nil)) pe_str) (pe_callTy call_str_int (by rfl) T.str (by decide +kernel) (pa_cons (pv 14) pa_nil))))))) (pss_cons (ps_if (PW.pt (pw_or (pt_cmpR op_ne (pe_call GFL hr3 rfl mFL kFL bFL .nil pass0 (pa_cons (pv 7) pa_nil)) (pv 9) (nomark _)) (pw_or (pt_cmpR (op_neD hr.units) (pv 7) (pv 8) (nomark _)) (pw_or1 (pt_cmpR (op_neD hr.units) (pe_call GPL hr4 rfl mPL kPL bPL .nil pass0 (pa_cons (pv 9) pa_nil)) (pv 7) (nomark _)))))) (pss_one (ps_ret pe_bl)) pss_nil) (pss_cons (ps_expr (pe_bm PySem.F.plainAttrs_list PySem.F.slot_list_append PySem.F.type_list_append mt_append (pe_call GPL hr4 rfl mPL kPL bPL .nil pass0 (pa_cons (pv 9) pa_nil)) (pa_cons pe_non pa_nil))) (pss_one (ps_if (PW.pt (pw_or (pt_cmpR (op_neD hr.units) (pe_defK0 GPL hr4 rfl mPL kPL nPL pass0 (pk_cons (pv 9) pk_nil)) (pv 7) (nomark _)) (pw_or1 (pt_cmpR op_ne (pe_defK0 GFL hr3 rfl mFL kFL nFL pass0 (pk_cons (pv 7) pk_nil)) (pv 9) (nomark _))))) (pss_one (ps_ret pe_bl)) pss_nil)))))))))))))) (pss_one (ps_ret pe_bl))), ?_⟩
    -- the cells
    refine ⟨_, rfl, sc, ns, rfl, hs, (by show 1 ≤ sizeLine; decide), fun l1 hl1 => ?_⟩
    refine ⟨_, rfl, _, rfl, _, rfl, sc, _, rfl, (same_new hl1).seq hs, fun l2 hl2 => ?_⟩
    have hl1' := same_new (o := .lst (cutV (ns.map V.int) (some 1) (some 6))) hl2 _ _ (upd_same (H := H) (a := l1) (o := .lst [V.int (ns.getD 0 0)]))
    refine ⟨l1, l2, _, _, rfl, rfl, hl1', upd_same, ?_, fun L hL => ?_⟩
    · have := cutV_length (ns.map V.int) (some 1) (some 6)
      rw [List.length_map] at this
      exact Nat.le_of_lt (small1000 (by show 1 + _ ≤ 1000; omega))
    have ecs : [V.int (ns.getD 0 0)] ++ cutV (ns.map V.int) (some 1) (some 6) = (cellsOf 6 ns).map V.int := by
      rw [show (some (1 : Int)) = some ((1 : Nat) : Int) from rfl, show (some (6 : Int)) = some ((6 : Nat) : Int) from rfl, cut_mid]
      unfold cellsOf
      rw [List.map_cons, List.map_take, List.map_drop]
      rfl
    rw [ecs]
    generalize cellsOf 6 ns = cs
    refine ⟨L, rfl, ⟨_, SqL.of upd_same⟩, for_list (a := L) (xs := cs.map V.int) (fun i σ H' => (∃ v1 v2 v3 v4 v5 v6 v7 v8 v9 v10 v11 v12 v13 v14, σ = [some (.ref sc), v1, v2, v3, v4, v5, v6, v7, v8, v9, v10, v11, v12, v13, v14]) ∧ H' L = some (.lst (cs.map V.int))) ⟨⟨_, _, _, _, _, _, _, _, _, _, _, _, _, _, rfl⟩, upd_same⟩ (fun i σ H' _ p => SqL.of p.2) ?_ (fun σ H' p => k H')⟩
    rintro i x σ H0 hx ⟨⟨v1, v2, v3, v4, v5, v6, v7, v8, v9, v10, v11, v12, v13, v14, rfl⟩, hL0⟩
    obtain ⟨c, _, rfl⟩ := map_of hx
    clear hx
    refine ⟨_, rfl, c, rfl, fun a H1 ha S1 R1 => ?_⟩
    have nLa : L ≠ a := ne_of_none hL0 ha
    have hL1 := S1 _ _ hL0
    refine ⟨_, rfl, a, 0, rfl, R1, by omega, fun u g t gs tl H2 hg0 hu hg ht okG okT kx2 R2 => ?_⟩
    have nga : g ≠ a := (R1.new hg0).symm
    have hL2 := kx2 _ _ nLa hL1
    clear kx2 R1 hL1 hL0 ha S1
    refine ⟨u, _, rfl, SqT.of hu, rfl, _, _, rfl, _, _, rfl, rfl, ?_⟩
    -- the words
    have okw := ruleW_ok okG okT
    have oks := StrsOf.nums fun i hi => num_gap okG hi
    have okt := StrsOf.tl okG.1 okT
    have hg20 := okG.1
    have htl := tlW_len tl
    refine ⟨_, rfl, g, rfl, ⟨_, SqL.of hg⟩, fun D hD => lc_list (a := g) (xs := gs.map V.int) (fun i H' => Same H2 H' ∧ H' D = some (.lst (((gs.map numS).take i).map V.str))) ⟨same_new hD, upd_same⟩ (fun i H' _ p => SqL.of (p.1 _ _ hg)) (fun i x H' hi p => ?_) (fun H3 p => ?_)⟩
    · have hil := (List.getElem?_eq_some_iff.mp hi).1
      obtain ⟨u, hu⟩ : ∃ u, (gs.map numS)[i]? = some u := ⟨_, List.getElem?_eq_getElem (by rw [← oks.1]; exact hil)⟩
      have fin := strs_turn hD hu (by rw [List.length_map]; omega) p
      refine ⟨rfl, ?_⟩
      refine yes_t (iteT ?_)
      refine ⟨_, rfl, ?_⟩
      rcases oks.2 i x _ hi hu with ⟨z, rfl, hz, rfl⟩ | rfl
      · exact .inl ⟨z, rfl, num_log hz, fin⟩
      · exact .inr ⟨u, rfl, fin⟩
    rw [oks.1, List.take_length] at p
    obtain ⟨S3, hD3⟩ := p
    have ht3 := S3 _ _ ht
    refine ⟨_, rfl, t, rfl, ⟨_, SqT.of ht3⟩, fun D' hD' => lc_it walk_tup (fun i H' => Same H3 H' ∧ H' D' = some (.lst (((tlW tl).take i).map V.str))) ⟨same_new hD', upd_same⟩ (fun i H' _ p => SqT.of (p.1 _ _ ht3)) (fun i x H0' H' hi p y => ?_) (fun H4 p => ?_)⟩
    · obtain ⟨rfl, hi⟩ := y
      have hil := (List.getElem?_eq_some_iff.mp hi).1
      obtain ⟨u, hu⟩ : ∃ u, (tlW tl)[i]? = some u := ⟨_, List.getElem?_eq_getElem (by rw [← okt.1]; exact hil)⟩
      have fin := strs_turn hD' hu (by omega) p
      refine ⟨rfl, ?_⟩
      refine yes_t (iteT ?_)
      refine ⟨_, rfl, ?_⟩
      rcases okt.2 i x _ hi hu with ⟨z, rfl, hz, rfl⟩ | rfl
      · exact .inl ⟨z, rfl, num_log hz, fin⟩
      · exact .inr ⟨u, rfl, fin⟩
    rw [okt.1, List.take_length] at p
    obtain ⟨S4, hD4⟩ := p
    refine ⟨D, D', _, _, rfl, rfl, S4 _ _ hD3, hD4, ?_, fun W hW => ?_⟩
    · rw [List.length_map, List.length_map, List.length_map]
      exact Nat.le_of_lt (small1000 (by omega))
    rw [← List.map_append]
    have S5 := same_new (o := .lst ((gs.map numS ++ tlW tl).map V.str)) hW
    have hW5 : (upd H4 W (.lst ((gs.map numS ++ tlW tl).map V.str))) W = some (.lst ((ruleW gs tl).map V.str)) := upd_same
    generalize upd H4 W (.lst ((gs.map numS ++ tlW tl).map V.str)) = H5 at S5 hW5
    have S25 := (S3.trans S4).trans S5
    have hg5 := S25 _ _ hg
    have ht5 := S25 _ _ ht
    have hL5 := S25 _ _ hL2
    have R5 := R2.mono S25
    have nWa : W ≠ a := ((R2.mono (S3.trans S4)).new hW).symm
    clear S25 S3 S4 S5 hD3 hD4 ht3 hW hD hD' hg ht hL2 R2 hg0 hu
    -- the rule
    refine ⟨_, rfl, _, rfl, fun p dx hp hdx _ => ?_⟩
    have Sm : Same H5 (upd (upd H5 dx (.own p)) p (.ins C dx [])) := made_same hp hdx
    refine ⟨p, dx, g, t, gs, tl, rfl, upd_same, Sm _ _ hg5, Sm _ _ ht5, okG, okT, fun g2 o H6 hg2 ho kp R6 => ⟨rfl, ?_⟩⟩
    have S6 : Same H5 H6 := fun b u e => kp b u (Sm _ _ e) (ne_of_none e hp)
    have Ra := R5.mono Sm
    have B6 : LawAt C H6 a L g p g2 t o cs gs tl := by
      obtain ⟨s0, s1, s2, hsa, _⟩ := R5.ex
      exact ⟨R6, S6 _ _ hL5, S6 _ _ hg5, nLa, nga, (R5.new hp).symm, (Ra.new hg2).symm, ne_of ht5 hsa (by intro z; cases z), (Ra.new ho).symm⟩
    have hW6 := S6 _ _ hW5
    have R6s := R5.mono S6
    clear hg5 ht5 hL5 hW5 R5 Sm hp hdx hg2 ho kp R6 S6 Ra
    -- the text of the rule
    have hfit := join_fit okw.1 okw.2
    refine ⟨_, rfl, p, g2, t, o, gs, tl, rfl, B6.R, fun H7 S7 => ?_⟩
    have B7 := B6.same S7
    have R7 := R6s.mono S7
    have hW7 := S7 _ _ hW6
    refine ⟨⟨_, rfl⟩, _, rfl, _, W, ruleW gs tl, rfl, rfl, .inl (SqL.of hW7), Nat.le_trans hfit (by decide), rfl, _, rfl, iteFb (ne_strs (ruleS gs tl)) ?_⟩
    refine ⟨⟨_, rfl⟩, _, rfl, _, W, ruleW gs tl, rfl, rfl, .inl (SqL.of hW7), Nat.le_trans hfit (by decide), gs, tl, rfl, okG, okT, fun p8 g8 t8 o8 H8 S8 R8 => ?_⟩
    have B8 := B7.same S8
    obtain ⟨dx8, hob8⟩ := R8.ob
    obtain ⟨dx, hob⟩ := B8.R.ob
    refine ⟨_, rfl, p8, p, dx8, dx, _, _, _, rfl, rfl, hob8, hob, ⟨g8, t8, o8, g2, t, o, gs, gs, tl, R8, B8.R, rfl⟩, fun H9 S9 => ⟨_, rfl, iteFb (by rw [decide_eq_true rfl]; rfl) ?_⟩⟩
    have S79 := S8.trans S9
    have B9 := B7.same S79
    have R9 := R7.mono S79
    have hW9 := S79 _ _ hW7
    clear hob hob8 B8 R8 S8 S9 S79 B7 R7 hW7 S7 B6 R6s hW6
    -- by names
    refine ⟨⟨_, rfl⟩, _, rfl, _, W, ruleW gs tl, rfl, rfl, .inl (SqL.of hW9), Nat.le_trans hfit (by decide), rfl, gs, tl, rfl, okG, okT, fun pa ga ta oa Ha Sa Ra => ?_⟩
    refine ⟨rfl, pa, ga, ta, oa, gs, tl, rfl, Ra, fun Hb Sb => ?_⟩
    have Sab := Sa.trans Sb
    have Bb := B9.same Sab
    have Rb := R9.mono Sab
    have hWb := Sab _ _ hW9
    refine ⟨⟨_, rfl⟩, _, rfl, _, W, ruleW gs tl, rfl, rfl, .inl (SqL.of hWb), Nat.le_trans hfit (by decide), rfl, _, rfl, iteFb (ne_strs (ruleS gs tl)) ?_⟩
    clear B9 R9 hW9 Sa Sb Sab Ra hWb
    -- the entries
    refine ⟨_, rfl, a, 7, 40, rfl, Rb, by omega, by decide, by decide, fun cn Hc cn0 cn1 kxc Rc => ?_⟩
    have Bc := Bb.kx kxc
    clear Bb Rb kxc
    refine ⟨cn, rfl, by omega, by omega, fun D hD => ?_⟩
    have naD : a ≠ D := Rc.new hD
    refine lc_range (lo := 0) (n := cn.toNat) (fun i H' => ∃ (rs : List Addr) (ps : List (Int × Int)), rs.length = i ∧ H' D = some (.lst (rs.map V.ref)) ∧ TupsI H' rs ps ∧ (∀ p ∈ ps, NumP p) ∧ Kx a Hc H' ∧ Src H' a (41 + 6 * i)) ⟨[], [], rfl, upd_same, TupsI.nil, fun p hp => (nomatch hp), Kx.of (same_new hD), Rc.mono (same_new hD)⟩ (fun i H' hi z => ?_) (fun H' z => ?_)
    · obtain ⟨rs, ps, hl, hd, tp, hn, kx, R⟩ := z
      refine ⟨rfl, ?_⟩
      refine yes_t (iteT ?_)
      refine ⟨_, rfl, a, 41 + 6 * i, rfl, R, by omega, fun n1 H1 hn1 kx1 R1 => ?_⟩
      refine ⟨_, rfl, a, 41 + 6 * i + 3, rfl, R1, by omega, fun n2 H2 hn2 kx2 R2 => ?_⟩
      have kx12 := kx1.trans kx2
      have hd2 := kx12 _ _ naD.symm hd
      refine ⟨(by show 2 ≤ sizeLine; decide), fun q hq => ?_⟩
      have Sq := same_new (o := .tup [.int n1, .int n2]) hq
      have hq3 : (upd H2 q (.tup [.int n1, .int n2])) q = some (.tup [.int n1, .int n2]) := upd_same
      have tp3 := (tp.kxs R kx12).same Sq
      have hd3 := Sq _ _ hd2
      have R3 := R2.mono Sq
      have kx3 := (kx.trans kx12).trans (Kx.of Sq)
      generalize upd H2 q (.tup [.int n1, .int n2]) = H3 at hq3 tp3 hd3 R3 kx3
      have nt : ∀ (r : Addr) (xs : List V), H3 r = some (.tup xs) → upd H3 D (.lst (rs.map V.ref ++ [V.ref q])) r = some (.tup xs) := fun r xs e => by
        rw [upd_ne (ne_of e hd3 (by intro z; cases z))]
        exact e
      refine ⟨_, hd3, ?_, rs ++ [q], ps ++ [(n1, n2)], ?_, ?_, (tp3.kx nt).snoc (nt _ _ hq3), ?_, ?_, ?_⟩
      · rw [List.length_map, hl]
        exact small1000 (by omega)
      · rw [List.length_append, hl]
        rfl
      · rw [upd_same, List.map_append]
        rfl
      · intro p hp
        rcases List.mem_append.mp hp with hp | hp
        · exact hn p hp
        · rw [List.mem_singleton.mp hp]
          exact ⟨hn1, hn2⟩
      · intro c o nc e
        rw [upd_ne (ne_of_none e hD)]
        exact kx3 c o nc e
      · obtain ⟨s0, s1, s2, h1, h2⟩ := R3.ex
        obtain ⟨ha, hb⟩ := h2
        exact ⟨s0, s1, s2, by rw [upd_ne naD]; exact h1, ha, hb.1, hb.2.1, hb.2.2.1, by have := hb.2.2.2; omega⟩
    obtain ⟨rs, ps, hl, hd, tp, hn, kx, R⟩ := z
    have Be := Bc.kx kx
    have hpl : ps.length ≤ 7 := by rw [← tp.1]; omega
    have hw := logW_ok hn
    clear Bc Rc kx naD hD
    -- a copy
    refine ⟨_, rfl, D, _, rfl, .inl (SqL.of hd), fun D2 hD2 => ?_⟩
    have S1 := same_new (o := .lst (rs.map V.ref)) hD2
    have hd1 := S1 _ _ hd
    have hk1 : (upd H' D2 (.lst (rs.map V.ref))) D2 = some (.lst (rs.map V.ref)) := upd_same
    have tp1 := tp.same S1
    have R1 := R.mono S1
    have B1 := Be.same S1
    generalize upd H' D2 (.lst (rs.map V.ref)) = H1 at S1 hd1 hk1 tp1 R1 B1
    clear S1 hd tp R Be hD2
    -- the line
    refine ⟨⟨_, rfl⟩, _, rfl, D, rfl, ⟨_, SqL.of hd1⟩, fun D3 hD3 => lc_list (a := D) (xs := rs.map V.ref) (fun i H' => Same H1 H' ∧ H' D3 = some (.lst (((ps.map pairS).take i).map V.str))) ⟨same_new hD3, upd_same⟩ (fun i H' _ p => SqL.of (p.1 _ _ hd1)) (fun i x H' hi p => ?_) (fun H2 p => ?_)⟩
    · obtain ⟨r, q, rfl, hq, hrr⟩ := tp1.get hi
      have hu : (ps.map pairS)[i]? = some (pairS q) := by rw [List.getElem?_map, hq]; rfl
      have hnq := hn q (List.mem_of_getElem? hq)
      have h1 := numS_len hnq.1
      have h2 := numS_len hnq.2
      have hz : (":" : Str).length = 1 := by decide +kernel
      have fin := strs_turn hD3 hu (by rw [List.length_map]; omega) p
      refine ⟨r, _, rfl, SqT.of (p.1 _ _ hrr), rfl, _, _, rfl, _, _, rfl, rfl, rfl, ?_⟩
      refine yes_t (iteT ?_)
      refine ⟨_, rfl, _, rfl, num_log hnq.1, _, _, rfl, rfl, ?_, _, rfl, _, rfl, num_log hnq.2, _, _, rfl, rfl, ?_, fin⟩
      · exact Nat.le_trans (Nat.add_le_add h1.2 (Nat.le_of_eq hz)) (by decide)
      · rw [app_len, hz]
        exact Nat.le_trans (Nat.add_le_add (Nat.add_le_add_right h1.2 1) h2.2) (by decide)
    obtain ⟨S2, hD2⟩ := p
    rw [List.length_map, tp1.1, show ps.length = (ps.map pairS).length by rw [List.length_map], List.take_length] at hD2
    have hwl : (ps.map pairS).length ≤ 7 := by rw [List.length_map]; exact hpl
    refine ⟨_, D3, ps.map pairS, rfl, rfl, .inl (SqL.of hD2), Nat.le_trans (join_fit hwl hw) (by decide), ?_⟩
    have hd2 := S2 _ _ hd1
    have hk2 := S2 _ _ hk1
    have tp2 := tp1.same S2
    have R2 := R1.mono S2
    have B2 := B1.same S2
    clear S2 hd1 hk1 tp1 R1 B1 hD2 hD3
    -- the text of the log, and back
    have heq : ∀ {x : Bool}, x = !PyData.eqv (.list (winD ps)) (.list (winD ps)) → x = false := fun h => by rw [h, win_eqvL, decide_eq_true rfl]; rfl
    refine ⟨_, rfl, D, rs, ps, rfl, hd2, tp2, by omega, hn, fun H3 S3 => ⟨_, rfl, rfl, _, rfl, iteFb (ne_strs (logS ps)) ?_⟩⟩
    have hd3 := S3 _ _ hd2
    have hk3 := S3 _ _ hk2
    have tp3 := tp2.same S3
    refine ⟨_, rfl, _, rfl, _, _, .lst (SqL.of hd3) (tupsI_dp tp3), .lst (SqL.of hk3) (tupsI_dp tp3), win_shaped ps, win_shaped ps, _, rfl, iteFb (heq rfl) ?_⟩
    refine ⟨_, rfl, ps, rfl, by omega, hn, fun g4 rs4 H4 hg40 hrs4 S4 hg4 tp4 => ?_⟩
    have hd4 := S4 _ _ hd3
    have tp4' := tp3.same S4
    refine ⟨_, rfl, _, _, .lst (SqL.of hg4) (tupsI_dp tp4), .lst (SqL.of hd4) (tupsI_dp tp4'), win_shaped ps, win_shaped ps, _, rfl, iteFb (heq rfl) ?_⟩
    have B4 := (B2.same S3).same S4
    clear hd3 hk3 tp3 hg4 tp4 S4 S3 hg40 hrs4 hd2 hk2 tp2 B2 R2
    refine ⟨_, rfl, ps, rfl, by omega, hn, fun g5 rs5 H5 hg50 hrs5 S5 hg5 tp5 => ?_⟩
    have hl5 : rs5.length ≤ 7 := by rw [tp5.1]; exact hpl
    refine ⟨.inl ⟨rfl, _, SqL.of hg5⟩, g5, _, _, rfl, rfl, hg5, by rw [List.length_map]; exact small1000 (by omega), ?_⟩
    have S6 := same_app (o := .lst (rs5.map V.ref ++ [V.non])) hg50 S5
    have hd6 := S6 _ _ hd4
    have tp6 := tp4'.same S6
    have B6 := B4.same S6
    generalize upd H5 g5 (.lst (rs5.map V.ref ++ [V.non])) = H6 at hd6 tp6 B6
    clear S6 hg5 tp5 S5 hg50 hrs5 hd4 tp4' B4
    refine ⟨_, rfl, rfl, ps, rfl, by omega, hn, fun g7 rs7 H7 hg70 hrs7 S7 hg7 tp7 => ?_⟩
    have hd7 := S7 _ _ hd6
    have tp7' := tp6.same S7
    refine ⟨_, rfl, _, _, .lst (SqL.of hg7) (tupsI_dp tp7), .lst (SqL.of hd7) (tupsI_dp tp7'), win_shaped ps, win_shaped ps, _, rfl, iteFb (heq rfl) ?_⟩
    refine ⟨_, rfl, rfl, D, rs, ps, rfl, hd7, tp7', by omega, hn, fun H8 S8 => ⟨_, rfl, rfl, _, rfl, iteFb (ne_strs (logS ps)) ?_⟩⟩
    exact ⟨⟨_, _, _, _, _, _, _, _, _, _, _, _, _, _, rfl⟩, ((B6.same S7).same S8).hL⟩
end
end RS
namespace RS
open PySem L2
/-! ### what the top has written -/
theorem all_mk {l : PySem.W.OpenLaw} {w : World} {K : PySem.W.Frag} {h : Heap} {mg : Str → Option Value} {fa : Addr}  (X : K.In h) (G : h.Ns mainGlobals mg) (hfa : mg "law" = some (.ref fa)) (hlong : ∃ t, mg "_LONGEST_GAP" = some (.int 1000000000000 t))
    {fa0 : Addr} {oda0 ana0 : Option Addr} {sla0 : Array (Option Value)} {oca0 kVa0 dca0 pma0 cta0 : Value}
    {cda0 : Value}
    {fa1 : Addr} {oda1 ana1 : Option Addr} {sla1 : Array (Option Value)} {oca1 kVa1 dca1 pma1 cta1 : Value}
    {cda1 : Value}
    {fa2 : Addr} {oda2 ana2 : Option Addr} {sla2 : Array (Option Value)} {oca2 kVa2 dca2 pma2 cta2 : Value}
    {cda2 : Value}
    {fa3 : Addr} {oda3 ana3 : Option Addr} {sla3 : Array (Option Value)} {oca3 kVa3 dca3 pma3 cta3 : Value}
    {cda3 : Value}
    {fa4 : Addr} {oda4 ana4 : Option Addr} {sla4 : Array (Option Value)} {oca4 kVa4 dca4 pma4 cta4 : Value}
    {cda4 : Value}
    {fr6 : Addr} {odr6 anr6 : Option Addr} {slr6 : Array (Option Value)} {ocr6 kVr6 dcr6 pmr6 ctr6 : Value}
    {cdr6 : Value}
    {fa9 : Addr} {oda9 ana9 : Option Addr} {sla9 : Array (Option Value)} {oca9 kVa9 dca9 pma9 cta9 : Value}
    {cda9 : Value}
    {fa10 : Addr} {oda10 ana10 : Option Addr} {sla10 : Array (Option Value)} {oca10 kVa10 dca10 pma10 cta10 : Value}
    {cda10 : Value}
    {fa11 : Addr} {oda11 ana11 : Option Addr} {sla11 : Array (Option Value)} {oca11 kVa11 dca11 pma11 cta11 : Value}
    {cda11 : Value}
    {fa12 : Addr} {oda12 ana12 : Option Addr} {sla12 : Array (Option Value)} {oca12 kVa12 dca12 pma12 cta12 : Value}
    {cda12 : Value}
    {fa13 : Addr} {oda13 ana13 : Option Addr} {sla13 : Array (Option Value)} {oca13 kVa13 dca13 pma13 cta13 : Value}
    {cda13 : Value}
    {fa14 : Addr} {oda14 ana14 : Option Addr} {sla14 : Array (Option Value)} {oca14 kVa14 dca14 pma14 cta14 : Value}
    {cda14 : Value}
    {fa15 : Addr} {oda15 ana15 : Option Addr} {sla15 : Array (Option Value)} {oca15 kVa15 dca15 pma15 cta15 : Value}
    {cda15 : Value}
    {fa16 : Addr} {oda16 ana16 : Option Addr} {sla16 : Array (Option Value)} {oca16 kVa16 dca16 pma16 cta16 : Value}
    {cda16 : Value}
    {fa17 : Addr} {oda17 ana17 : Option Addr} {sla17 : Array (Option Value)} {oca17 kVa17 dca17 pma17 cta17 : Value}
    {cda17 : Value}
    {fl18 : Addr} {odl18 anl18 : Option Addr} {sll18 : Array (Option Value)} {ocl18 kVl18 dcl18 pml18 ctl18 : Value}
    {cdl18 : Value}
    {fl19 : Addr} {odl19 anl19 : Option Addr} {sll19 : Array (Option Value)} {ocl19 kVl19 dcl19 pml19 ctl19 : Value}
    {cdl19 : Value}
    {fl20 : Addr} {odl20 anl20 : Option Addr} {sll20 : Array (Option Value)} {ocl20 kVl20 dcl20 pml20 ctl20 : Value}
    {cdl20 : Value}
    {fl21 : Addr} {odl21 anl21 : Option Addr} {sll21 : Array (Option Value)} {ocl21 kVl21 dcl21 pml21 ctl21 : Value}
    {cdl21 : Value}
    {fl22 : Addr} {odl22 anl22 : Option Addr} {sll22 : Array (Option Value)} {ocl22 kVl22 dcl22 pml22 ctl22 : Value}
    {cdl22 : Value}
    {fl23 : Addr} {odl23 anl23 : Option Addr} {sll23 : Array (Option Value)} {ocl23 kVl23 dcl23 pml23 ctl23 : Value}
    {cdl23 : Value}
    {fr24 : Addr} {odr24 anr24 : Option Addr} {slr24 : Array (Option Value)} {ocr24 kVr24 dcr24 pmr24 ctr24 : Value}
    {cdr24 : Value}
    {fr25 : Addr} {odr25 anr25 : Option Addr} {slr25 : Array (Option Value)} {ocr25 kVr25 dcr25 pmr25 ctr25 : Value}
    {cdr25 : Value}
    {fa26 : Addr} {oda26 ana26 : Option Addr} {sla26 : Array (Option Value)} {oca26 kVa26 dca26 pma26 cta26 : Value}
    {cda26 : Value}
    {fa27 : Addr} {oda27 ana27 : Option Addr} {sla27 : Array (Option Value)} {oca27 kVa27 dca27 pma27 cta27 : Value}
    {cda27 : Value}
    {fa28 : Addr} {oda28 ana28 : Option Addr} {sla28 : Array (Option Value)} {oca28 kVa28 dca28 pma28 cta28 : Value}
    {cda28 : Value}
    {fa29 : Addr} {oda29 ana29 : Option Addr} {sla29 : Array (Option Value)} {oca29 kVa29 dca29 pma29 cta29 : Value}
    {cda29 : Value}
    {fa30 : Addr} {oda30 ana30 : Option Addr} {sla30 : Array (Option Value)} {oca30 kVa30 dca30 pma30 cta30 : Value}
    {cda30 : Value}
    {fa31 : Addr} {oda31 ana31 : Option Addr} {sla31 : Array (Option Value)} {oca31 kVa31 dca31 pma31 cta31 : Value}
    {cda31 : Value}
    {fa32 : Addr} {oda32 ana32 : Option Addr} {sla32 : Array (Option Value)} {oca32 kVa32 dca32 pma32 cta32 : Value}
    {cda32 : Value}
    {fa33 : Addr} {oda33 ana33 : Option Addr} {sla33 : Array (Option Value)} {oca33 kVa33 dca33 pma33 cta33 : Value}
    {cda33 : Value}
    {fa34 : Addr} {oda34 ana34 : Option Addr} {sla34 : Array (Option Value)} {oca34 kVa34 dca34 pma34 cta34 : Value}
    {cda34 : Value}
    {fr35 : Addr} {odr35 anr35 : Option Addr} {slr35 : Array (Option Value)} {ocr35 kVr35 dcr35 pmr35 ctr35 : Value}
    {cdr35 : Value}
    {C : Addr}
    {CLi : Addr}
    {tM : Tok}
    {tF : Tok}
    {tL : Tok}
    {tD : Tok}
    (Aa0 : PySem.W.nsIn K mainGlobals "law" = some (some (.ref fa0)))
    (La0 : K.lookup fa0 = some ⟨oca0, oda0, .func (PySem.W.fnOf "law" "law" (defArgs s_law) (defBody s_law) (defScope s_law) .none kVa0 dca0 pma0 ana0 cda0 cta0), sla0⟩) (Ca0 : PySem.W.codeIn K cda0 "law" = true) (Ka0 : PySem.W.keepIn K (.ref fa0) = true)
    (Aa1 : PySem.W.nsIn K mainGlobals "is_integer" = some (some (.ref fa1)))
    (La1 : K.lookup fa1 = some ⟨oca1, oda1, .func (PySem.W.fnOf "is_integer" "is_integer" (defArgs s_is_integer) (defBody s_is_integer) (defScope s_is_integer) .none kVa1 dca1 pma1 ana1 cda1 cta1), sla1⟩) (Ca1 : PySem.W.codeIn K cda1 "is_integer" = true) (Ka1 : PySem.W.keepIn K (.ref fa1) = true)
    (Aa2 : PySem.W.nsIn K mainGlobals "are_gaps" = some (some (.ref fa2)))
    (La2 : K.lookup fa2 = some ⟨oca2, oda2, .func (PySem.W.fnOf "are_gaps" "are_gaps" (defArgs s_are_gaps) (defBody s_are_gaps) (defScope s_are_gaps) .none kVa2 dca2 pma2 ana2 cda2 cta2), sla2⟩) (Ca2 : PySem.W.codeIn K cda2 "are_gaps" = true) (Ka2 : PySem.W.keepIn K (.ref fa2) = true)
    (Aa3 : PySem.W.nsIn K mainGlobals "_is_tail" = some (some (.ref fa3)))
    (La3 : K.lookup fa3 = some ⟨oca3, oda3, .func (PySem.W.fnOf "_is_tail" "_is_tail" (defArgs s_is_tail) (defBody s_is_tail) (defScope s_is_tail) .none kVa3 dca3 pma3 ana3 cda3 cta3), sla3⟩) (Ca3 : PySem.W.codeIn K cda3 "_is_tail" = true) (Ka3 : PySem.W.keepIn K (.ref fa3) = true)
    (Aa4 : PySem.W.nsIn K mainGlobals "sums" = some (some (.ref fa4)))
    (La4 : K.lookup fa4 = some ⟨oca4, oda4, .func (PySem.W.fnOf "sums" "sums" (defArgs s_sums) (defBody s_sums) (defScope s_sums) .none kVa4 dca4 pma4 ana4 cda4 cta4), sla4⟩) (Ca4 : PySem.W.codeIn K cda4 "sums" = true) (Ka4 : PySem.W.keepIn K (.ref fa4) = true)
    (Ar6 : PySem.W.findIn K (.ref C) "__init__" = some (some (.ref fr6))) (Ir6 : PySem.W.isFn K (.ref fr6) = true)
    (Lr6 : K.lookup fr6 = some ⟨ocr6, odr6, .func (PySem.W.fnOf "__init__" "Rule.__init__" (defArgs s_Rule_ddinitdd) (defBody s_Rule_ddinitdd) (defScope s_Rule_ddinitdd) .none kVr6 dcr6 pmr6 anr6 cdr6 ctr6), slr6⟩) (Cr6 : PySem.W.codeIn K cdr6 "Rule.__init__" = true) (Kr6 : PySem.W.keepIn K (.ref fr6) = true)
    (Aa9 : PySem.W.nsIn K mainGlobals "_law_source_of" = some (some (.ref fa9)))
    (La9 : K.lookup fa9 = some ⟨oca9, oda9, .func (PySem.W.fnOf "_law_source_of" "_law_source_of" (defArgs s_law_source_of) (defBody s_law_source_of) (defScope s_law_source_of) .none kVa9 dca9 pma9 ana9 cda9 cta9), sla9⟩) (Ca9 : PySem.W.codeIn K cda9 "_law_source_of" = true) (Ka9 : PySem.W.keepIn K (.ref fa9) = true)
    (Aa10 : PySem.W.nsIn K mainGlobals "_law_next" = some (some (.ref fa10)))
    (La10 : K.lookup fa10 = some ⟨oca10, oda10, .func (PySem.W.fnOf "_law_next" "_law_next" (defArgs s_law_next) (defBody s_law_next) (defScope s_law_next) .none kVa10 dca10 pma10 ana10 cda10 cta10), sla10⟩) (Ca10 : PySem.W.codeIn K cda10 "_law_next" = true) (Ka10 : PySem.W.keepIn K (.ref fa10) = true)
    (Aa11 : PySem.W.nsIn K mainGlobals "_law_one" = some (some (.ref fa11)))
    (La11 : K.lookup fa11 = some ⟨oca11, oda11, .func (PySem.W.fnOf "_law_one" "_law_one" (defArgs s_law_one) (defBody s_law_one) (defScope s_law_one) .none kVa11 dca11 pma11 ana11 cda11 cta11), sla11⟩) (Ca11 : PySem.W.codeIn K cda11 "_law_one" = true) (Ka11 : PySem.W.keepIn K (.ref fa11) = true)
    (Aa12 : PySem.W.nsIn K mainGlobals "_law_cell_at" = some (some (.ref fa12)))
    (La12 : K.lookup fa12 = some ⟨oca12, oda12, .func (PySem.W.fnOf "_law_cell_at" "_law_cell_at" (defArgs s_law_cell_at) (defBody s_law_cell_at) (defScope s_law_cell_at) .none kVa12 dca12 pma12 ana12 cda12 cta12), sla12⟩) (Ca12 : PySem.W.codeIn K cda12 "_law_cell_at" = true) (Ka12 : PySem.W.keepIn K (.ref fa12) = true)
    (Aa13 : PySem.W.nsIn K mainGlobals "_law_spec" = some (some (.ref fa13)))
    (La13 : K.lookup fa13 = some ⟨oca13, oda13, .func (PySem.W.fnOf "_law_spec" "_law_spec" (defArgs s_law_spec) (defBody s_law_spec) (defScope s_law_spec) .none kVa13 dca13 pma13 ana13 cda13 cta13), sla13⟩) (Ca13 : PySem.W.codeIn K cda13 "_law_spec" = true) (Ka13 : PySem.W.keepIn K (.ref fa13) = true)
    (Aa14 : PySem.W.nsIn K mainGlobals "_is_number" = some (some (.ref fa14)))
    (La14 : K.lookup fa14 = some ⟨oca14, oda14, .func (PySem.W.fnOf "_is_number" "_is_number" (defArgs s_is_number) (defBody s_is_number) (defScope s_is_number) .none kVa14 dca14 pma14 ana14 cda14 cta14), sla14⟩) (Ca14 : PySem.W.codeIn K cda14 "_is_number" = true) (Ka14 : PySem.W.keepIn K (.ref fa14) = true)
    (Aa15 : PySem.W.nsIn K mainGlobals "_is_pair" = some (some (.ref fa15)))
    (La15 : K.lookup fa15 = some ⟨oca15, oda15, .func (PySem.W.fnOf "_is_pair" "_is_pair" (defArgs s_is_pair) (defBody s_is_pair) (defScope s_is_pair) .none kVa15 dca15 pma15 ana15 cda15 cta15), sla15⟩) (Ca15 : PySem.W.codeIn K cda15 "_is_pair" = true) (Ka15 : PySem.W.keepIn K (.ref fa15) = true)
    (Aa16 : PySem.W.nsIn K mainGlobals "lines_of" = some (some (.ref fa16)))
    (La16 : K.lookup fa16 = some ⟨oca16, oda16, .func (PySem.W.fnOf "lines_of" "lines_of" (defArgs s_lines_of) (defBody s_lines_of) (defScope s_lines_of) .none kVa16 dca16 pma16 ana16 cda16 cta16), sla16⟩) (Ca16 : PySem.W.codeIn K cda16 "lines_of" = true) (Ka16 : PySem.W.keepIn K (.ref fa16) = true)
    (Aa17 : PySem.W.nsIn K mainGlobals "check_no_line" = some (some (.ref fa17)))
    (La17 : K.lookup fa17 = some ⟨oca17, oda17, .func (PySem.W.fnOf "check_no_line" "check_no_line" (defArgs s_check_no_line) (defBody s_check_no_line) (defScope s_check_no_line) .none kVa17 dca17 pma17 ana17 cda17 cta17), sla17⟩) (Ca17 : PySem.W.codeIn K cda17 "check_no_line" = true) (Ka17 : PySem.W.keepIn K (.ref fa17) = true)
    (Al18 : PySem.W.findIn K (.ref CLi) "__init__" = some (some (.ref fl18))) (Il18 : PySem.W.isFn K (.ref fl18) = true)
    (Ll18 : K.lookup fl18 = some ⟨ocl18, odl18, .func (PySem.W.fnOf "__init__" "Line.__init__" (defArgs s_Line_ddinitdd) (defBody s_Line_ddinitdd) (defScope s_Line_ddinitdd) .none kVl18 dcl18 pml18 anl18 cdl18 ctl18), sll18⟩) (Cl18 : PySem.W.codeIn K cdl18 "Line.__init__" = true) (Kl18 : PySem.W.keepIn K (.ref fl18) = true)
    (Al19 : PySem.W.findIn K (.ref CLi) "one_of" = some (some (.ref fl19))) (Il19 : PySem.W.isFn K (.ref fl19) = true)
    (Ll19 : K.lookup fl19 = some ⟨ocl19, odl19, .func (PySem.W.fnOf "one_of" "Line.one_of" (defArgs s_Line_one_of) (defBody s_Line_one_of) (defScope s_Line_one_of) .none kVl19 dcl19 pml19 anl19 cdl19 ctl19), sll19⟩) (Cl19 : PySem.W.codeIn K cdl19 "Line.one_of" = true) (Kl19 : PySem.W.keepIn K (.ref fl19) = true)
    (Al20 : PySem.W.findIn K (.ref CLi) "whole" = some (some (.ref fl20))) (Il20 : PySem.W.isFn K (.ref fl20) = true)
    (Ll20 : K.lookup fl20 = some ⟨ocl20, odl20, .func (PySem.W.fnOf "whole" "Line.whole" (defArgs s_Line_whole) (defBody s_Line_whole) (defScope s_Line_whole) .none kVl20 dcl20 pml20 anl20 cdl20 ctl20), sll20⟩) (Cl20 : PySem.W.codeIn K cdl20 "Line.whole" = true) (Kl20 : PySem.W.keepIn K (.ref fl20) = true)
    (Al21 : PySem.W.findIn K (.ref CLi) "wholes" = some (some (.ref fl21))) (Il21 : PySem.W.isFn K (.ref fl21) = true)
    (Ll21 : K.lookup fl21 = some ⟨ocl21, odl21, .func (PySem.W.fnOf "wholes" "Line.wholes" (defArgs s_Line_wholes) (defBody s_Line_wholes) (defScope s_Line_wholes) .none kVl21 dcl21 pml21 anl21 cdl21 ctl21), sll21⟩) (Cl21 : PySem.W.codeIn K cdl21 "Line.wholes" = true) (Kl21 : PySem.W.keepIn K (.ref fl21) = true)
    (Al22 : PySem.W.findIn K (.ref CLi) "finish" = some (some (.ref fl22))) (Il22 : PySem.W.isFn K (.ref fl22) = true)
    (Ll22 : K.lookup fl22 = some ⟨ocl22, odl22, .func (PySem.W.fnOf "finish" "Line.finish" (defArgs s_Line_finish) (defBody s_Line_finish) (defScope s_Line_finish) .none kVl22 dcl22 pml22 anl22 cdl22 ctl22), sll22⟩) (Cl22 : PySem.W.codeIn K cdl22 "Line.finish" = true) (Kl22 : PySem.W.keepIn K (.ref fl22) = true)
    (Al23 : PySem.W.findIn K (.ref CLi) "pairs" = some (some (.ref fl23))) (Il23 : PySem.W.isFn K (.ref fl23) = true)
    (Ll23 : K.lookup fl23 = some ⟨ocl23, odl23, .func (PySem.W.fnOf "pairs" "Line.pairs" (defArgs s_Line_pairs) (defBody s_Line_pairs) (defScope s_Line_pairs) .none kVl23 dcl23 pml23 anl23 cdl23 ctl23), sll23⟩) (Cl23 : PySem.W.codeIn K cdl23 "Line.pairs" = true) (Kl23 : PySem.W.keepIn K (.ref fl23) = true)
    (Ar24 : PySem.W.findIn K (.ref C) "gaps" = some (some (.ref fr24))) (Ir24 : PySem.W.isFn K (.ref fr24) = true)
    (Lr24 : K.lookup fr24 = some ⟨ocr24, odr24, .func (PySem.W.fnOf "gaps" "Rule.gaps" (defArgs s_Rule_gaps) (defBody s_Rule_gaps) (defScope s_Rule_gaps) .none kVr24 dcr24 pmr24 anr24 cdr24 ctr24), slr24⟩) (Cr24 : PySem.W.codeIn K cdr24 "Rule.gaps" = true) (Kr24 : PySem.W.keepIn K (.ref fr24) = true)
    (Ar25 : PySem.W.findIn K (.ref C) "tail" = some (some (.ref fr25))) (Ir25 : PySem.W.isFn K (.ref fr25) = true)
    (Lr25 : K.lookup fr25 = some ⟨ocr25, odr25, .func (PySem.W.fnOf "tail" "Rule.tail" (defArgs s_Rule_tail) (defBody s_Rule_tail) (defScope s_Rule_tail) .none kVr25 dcr25 pmr25 anr25 cdr25 ctr25), slr25⟩) (Cr25 : PySem.W.codeIn K cdr25 "Rule.tail" = true) (Kr25 : PySem.W.keepIn K (.ref fr25) = true)
    (Aa26 : PySem.W.nsIn K mainGlobals "_joined" = some (some (.ref fa26)))
    (La26 : K.lookup fa26 = some ⟨oca26, oda26, .func (PySem.W.fnOf "_joined" "_joined" (defArgs s_joined) (defBody s_joined) (defScope s_joined) .none kVa26 dca26 pma26 ana26 cda26 cta26), sla26⟩) (Ca26 : PySem.W.codeIn K cda26 "_joined" = true) (Ka26 : PySem.W.keepIn K (.ref fa26) = true)
    (Aa27 : PySem.W.nsIn K mainGlobals "check_rule" = some (some (.ref fa27)))
    (La27 : K.lookup fa27 = some ⟨oca27, oda27, .func (PySem.W.fnOf "check_rule" "check_rule" (defArgs s_check_rule) (defBody s_check_rule) (defScope s_check_rule) .none kVa27 dca27 pma27 ana27 cda27 cta27), sla27⟩) (Ca27 : PySem.W.codeIn K cda27 "check_rule" = true) (Ka27 : PySem.W.keepIn K (.ref fa27) = true)
    (Aa28 : PySem.W.nsIn K mainGlobals "format_rule" = some (some (.ref fa28)))
    (La28 : K.lookup fa28 = some ⟨oca28, oda28, .func (PySem.W.fnOf "format_rule" "format_rule" (defArgs s_format_rule) (defBody s_format_rule) (defScope s_format_rule) .none kVa28 dca28 pma28 ana28 cda28 cta28), sla28⟩) (Ca28 : PySem.W.codeIn K cda28 "format_rule" = true) (Ka28 : PySem.W.keepIn K (.ref fa28) = true)
    (Aa29 : PySem.W.nsIn K mainGlobals "_read_rule" = some (some (.ref fa29)))
    (La29 : K.lookup fa29 = some ⟨oca29, oda29, .func (PySem.W.fnOf "_read_rule" "_read_rule" (defArgs s_read_rule) (defBody s_read_rule) (defScope s_read_rule) .none kVa29 dca29 pma29 ana29 cda29 cta29), sla29⟩) (Ca29 : PySem.W.codeIn K cda29 "_read_rule" = true) (Ka29 : PySem.W.keepIn K (.ref fa29) = true)
    (Aa30 : PySem.W.nsIn K mainGlobals "parse_rule" = some (some (.ref fa30)))
    (La30 : K.lookup fa30 = some ⟨oca30, oda30, .func (PySem.W.fnOf "parse_rule" "parse_rule" (defArgs s_parse_rule) (defBody s_parse_rule) (defScope s_parse_rule) .none kVa30 dca30 pma30 ana30 cda30 cta30), sla30⟩) (Ca30 : PySem.W.codeIn K cda30 "parse_rule" = true) (Ka30 : PySem.W.keepIn K (.ref fa30) = true)
    (Aa31 : PySem.W.nsIn K mainGlobals "are_two_integers" = some (some (.ref fa31)))
    (La31 : K.lookup fa31 = some ⟨oca31, oda31, .func (PySem.W.fnOf "are_two_integers" "are_two_integers" (defArgs s_are_two_integers) (defBody s_are_two_integers) (defScope s_are_two_integers) .none kVa31 dca31 pma31 ana31 cda31 cta31), sla31⟩) (Ca31 : PySem.W.codeIn K cda31 "are_two_integers" = true) (Ka31 : PySem.W.keepIn K (.ref fa31) = true)
    (Aa32 : PySem.W.nsIn K mainGlobals "format_log" = some (some (.ref fa32)))
    (La32 : K.lookup fa32 = some ⟨oca32, oda32, .func (PySem.W.fnOf "format_log" "format_log" (defArgs s_format_log) (defBody s_format_log) (defScope s_format_log) .none kVa32 dca32 pma32 ana32 cda32 cta32), sla32⟩) (Ca32 : PySem.W.codeIn K cda32 "format_log" = true) (Ka32 : PySem.W.keepIn K (.ref fa32) = true)
    (Aa33 : PySem.W.nsIn K mainGlobals "parse_log" = some (some (.ref fa33)))
    (La33 : K.lookup fa33 = some ⟨oca33, oda33, .func (PySem.W.fnOf "parse_log" "parse_log" (defArgs s_parse_log) (defBody s_parse_log) (defScope s_parse_log) .none kVa33 dca33 pma33 ana33 cda33 cta33), sla33⟩) (Ca33 : PySem.W.codeIn K cda33 "parse_log" = true) (Ka33 : PySem.W.keepIn K (.ref fa33) = true)
    (Aa34 : PySem.W.nsIn K mainGlobals "_law_number" = some (some (.ref fa34)))
    (La34 : K.lookup fa34 = some ⟨oca34, oda34, .func (PySem.W.fnOf "_law_number" "_law_number" (defArgs s_law_number) (defBody s_law_number) (defScope s_law_number) .none kVa34 dca34 pma34 ana34 cda34 cta34), sla34⟩) (Ca34 : PySem.W.codeIn K cda34 "_law_number" = true) (Ka34 : PySem.W.keepIn K (.ref fa34) = true)
    (Ar35 : PySem.W.findIn K (.ref C) "__eq__" = some (some (.ref fr35))) (Ir35 : PySem.W.isFn K (.ref fr35) = true)
    (Lr35 : K.lookup fr35 = some ⟨ocr35, odr35, .func (PySem.W.fnOf "__eq__" "Rule.__eq__" (defArgs s_Rule_ddeqdd) (defBody s_Rule_ddeqdd) (defScope s_Rule_ddeqdd) .none kVr35 dcr35 pmr35 anr35 cdr35 ctr35), slr35⟩) (Cr35 : PySem.W.codeIn K cdr35 "Rule.__eq__" = true) (Kr35 : PySem.W.keepIn K (.ref fr35) = true)
    (aC : PySem.W.nsIn K mainGlobals "Rule" = some (some (.ref C)))
    (pg : PySem.W.plainGet K C Str.empty = true)
    (hd : PySem.W.hasDictIn K C = true)
    (po : PySem.W.plainOver K C = true)
    (sa : PySem.W.findIn K (.ref C) "__setattr__" = some (some (.builtin "object.__setattr__")))
    (mk : PySem.W.makesIn K C = true)
    (kc : PySem.W.keepIn K (.ref C) = true)
    (n0 : PySem.W.findIn K (.ref C) "_gaps" = some none)
    (n1 : PySem.W.findIn K (.ref C) "_tail" = some none)
    (n2 : PySem.W.findIn K (.ref C) "_offsets" = some none)
    (iha : PySem.W.findIn K (.ref C) "__class__" = some (some (.builtin "object.__class__")))
    (ihm : PySem.W.mroIn K C (.type "object") = some true)
    (ine : PySem.W.findIn K (.ref C) "__ne__" = some (some (.builtin "object.__ne__")))
    (aC_l : PySem.W.nsIn K mainGlobals "Line" = some (some (.ref CLi)))
    (pg_l : PySem.W.plainGet K CLi Str.empty = true)
    (hd_l : PySem.W.hasDictIn K CLi = true)
    (po_l : PySem.W.plainOver K CLi = true)
    (sa_l : PySem.W.findIn K (.ref CLi) "__setattr__" = some (some (.builtin "object.__setattr__")))
    (mk_l : PySem.W.makesIn K CLi = true)
    (kc_l : PySem.W.keepIn K (.ref CLi) = true)
    (n0_l : PySem.W.findIn K (.ref CLi) "_number" = some none)
    (n1_l : PySem.W.findIn K (.ref CLi) "_at" = some none)
    (n2_l : PySem.W.findIn K (.ref CLi) "_words" = some none)
    (ihn : PySem.W.specialIn K (.builtin "object.__class__") "__get__" = some (some (.builtin "getset_descriptor.__get__"))) (iht : PySem.W.takesIn K (.builtin "object.__class__") = some true)
    (z_len : PySem.W.nsIn K mainGlobals "len" = some none)
    (z_isinstance : PySem.W.nsIn K mainGlobals "isinstance" = some none)
    (z_int : PySem.W.nsIn K mainGlobals "int" = some none)
    (z_bool : PySem.W.nsIn K mainGlobals "bool" = some none)
    (z_list : PySem.W.nsIn K mainGlobals "list" = some none)
    (z_tuple : PySem.W.nsIn K mainGlobals "tuple" = some none)
    (z_str : PySem.W.nsIn K mainGlobals "str" = some none)
    (z_all : PySem.W.nsIn K mainGlobals "all" = some none)
    (z_range : PySem.W.nsIn K mainGlobals "range" = some none)
    (z_divmod : PySem.W.nsIn K mainGlobals "divmod" = some none)
    (z_sum : PySem.W.nsIn K mainGlobals "sum" = some none)
    (z_max : PySem.W.nsIn K mainGlobals "max" = some none)
    (z_min : PySem.W.nsIn K mainGlobals "min" = some none)
    (z_sorted : PySem.W.nsIn K mainGlobals "sorted" = some none)
    (z_set : PySem.W.nsIn K mainGlobals "set" = some none)
    (z_any : PySem.W.nsIn K mainGlobals "any" = some none)
    (z_enumerate : PySem.W.nsIn K mainGlobals "enumerate" = some none)
    (c_tM : PySem.W.nsIn K mainGlobals "_MOST_GAPS" = some (some (.int 20 tM)))
    (c_tF : PySem.W.nsIn K mainGlobals "_GREATEST_FACTOR" = some (some (.int 1000 tF)))
    (c_tL : PySem.W.nsIn K mainGlobals "LAST_GROWING" = some (some (.int 1000 tL)))
    (c_tD : PySem.W.nsIn K mainGlobals "_MOST_DIGITS" = some (some (.int 30 tD))) :
    ∃ fd : FuncData, (∀ (s : Shared) (v : Value), BindsTo s fd ⟨[v], []⟩ [("_law_script", v)]) ∧ ∀ base : Heap, K.In base → base.Ns mainGlobals mg → FnOk l.prog w K mg base CX0 6 fa fd ["_law_script"] (spLaw K) := by
  have e := hfa.symm.trans (PySem.W.mg_of X G Aa0)
  cases e
  have T : Txt K mg C := ⟨⟨pg, hd, po, sa⟩, n0, n1, n2, PySem.W.mg_of X G aC, PySem.W.mg_none_of X G z_len, PySem.W.mg_none_of X G z_isinstance, PySem.W.mg_none_of X G z_int, PySem.W.mg_none_of X G z_bool, PySem.W.mg_none_of X G z_list, PySem.W.mg_none_of X G z_tuple, PySem.W.mg_none_of X G z_str, PySem.W.mg_none_of X G z_all, PySem.W.mg_none_of X G z_range, PySem.W.mg_none_of X G z_divmod, PySem.W.mg_none_of X G z_sum, PySem.W.mg_none_of X G z_max, PySem.W.mg_none_of X G z_min, PySem.W.mg_none_of X G z_sorted, PySem.W.mg_none_of X G z_set, PySem.W.mg_none_of X G z_any, PySem.W.mg_none_of X G z_enumerate, ⟨tM, PySem.W.mg_of X G c_tM⟩, hlong, ⟨tF, PySem.W.mg_of X G c_tF⟩, ⟨tL, PySem.W.mg_of X G c_tL⟩⟩
  have M : Mk K C fr6 := ⟨mk, Ar6, Ir6, kc⟩
  have IC : C8.InsC K C := ⟨⟨pg, hd, po, sa⟩, iha, ihn, iht, ihm, if_pos (beq_self_eq_true _)⟩
  have M_l : Mk K CLi fl18 := ⟨mk_l, Al18, Il18, kc_l⟩
  have TL := (⟨⟨pg_l, hd_l, po_l, sa_l⟩, n0_l, n1_l, n2_l, PySem.W.mg_of X G aC_l⟩ : TxtL K mg CLi)
  have Fa0 := fun_mk (st := s_law) La0 Ca0 Ka0
  have Fa1 := fun_mk (st := s_is_integer) La1 Ca1 Ka1
  have Fa2 := fun_mk (st := s_are_gaps) La2 Ca2 Ka2
  have Fa3 := fun_mk (st := s_is_tail) La3 Ca3 Ka3
  have Fa4 := fun_mk (st := s_sums) La4 Ca4 Ka4
  have Fr6 := fun_mk (st := s_Rule_ddinitdd) Lr6 Cr6 Kr6
  have Fa9 := fun_mk (st := s_law_source_of) La9 Ca9 Ka9
  have Fa10 := fun_mk (st := s_law_next) La10 Ca10 Ka10
  have Fa11 := fun_mk (st := s_law_one) La11 Ca11 Ka11
  have Fa12 := fun_mk (st := s_law_cell_at) La12 Ca12 Ka12
  have Fa13 := fun_mk (st := s_law_spec) La13 Ca13 Ka13
  have Fa14 := fun_mk (st := s_is_number) La14 Ca14 Ka14
  have Fa15 := fun_mk (st := s_is_pair) La15 Ca15 Ka15
  have Fa16 := fun_mk (st := s_lines_of) La16 Ca16 Ka16
  have Fa17 := fun_mk (st := s_check_no_line) La17 Ca17 Ka17
  have Fl18 := fun_mk (st := s_Line_ddinitdd) Ll18 Cl18 Kl18
  have Fl19 := fun_mk (st := s_Line_one_of) Ll19 Cl19 Kl19
  have Fl20 := fun_mk (st := s_Line_whole) Ll20 Cl20 Kl20
  have Fl21 := fun_mk (st := s_Line_wholes) Ll21 Cl21 Kl21
  have Fl22 := fun_mk (st := s_Line_finish) Ll22 Cl22 Kl22
  have Fl23 := fun_mk (st := s_Line_pairs) Ll23 Cl23 Kl23
  have Fr24 := fun_mk (st := s_Rule_gaps) Lr24 Cr24 Kr24
  have Fr25 := fun_mk (st := s_Rule_tail) Lr25 Cr25 Kr25
  have Fa26 := fun_mk (st := s_joined) La26 Ca26 Ka26
  have Fa27 := fun_mk (st := s_check_rule) La27 Ca27 Ka27
  have Fa28 := fun_mk (st := s_format_rule) La28 Ca28 Ka28
  have Fa29 := fun_mk (st := s_read_rule) La29 Ca29 Ka29
  have Fa30 := fun_mk (st := s_parse_rule) La30 Ca30 Ka30
  have Fa31 := fun_mk (st := s_are_two_integers) La31 Ca31 Ka31
  have Fa32 := fun_mk (st := s_format_log) La32 Ca32 Ka32
  have Fa33 := fun_mk (st := s_parse_log) La33 Ca33 Ka33
  have Fa34 := fun_mk (st := s_law_number) La34 Ca34 Ka34
  have Fr35 := fun_mk (st := s_Rule_ddeqdd) Lr35 Cr35 Kr35
  have ba1 := Fa1.binds (ps := ["value"]) fun _ _ _ _ _ _ us hl => match us, hl with | [_], _ => rfl
  have ga1 := PySem.W.mg_of X G Aa1
  have ba2 := Fa2.binds (ps := ["value", "most"]) fun _ _ _ _ _ _ us hl => match us, hl with | [_, _], _ => rfl
  have ga2 := PySem.W.mg_of X G Aa2
  have ba3 := Fa3.binds (ps := ["value", "many"]) fun _ _ _ _ _ _ us hl => match us, hl with | [_, _], _ => rfl
  have ga3 := PySem.W.mg_of X G Aa3
  have ba4 := Fa4.binds (ps := ["gaps"]) fun _ _ _ _ _ _ us hl => match us, hl with | [_], _ => rfl
  have ga4 := PySem.W.mg_of X G Aa4
  have br6 := Fr6.binds (ps := ["self", "gaps", "tail"]) fun _ _ _ _ _ _ us hl => match us, hl with | [_, _, _], _ => rfl
  have er6 : Meth K C "__init__" fr6 := ⟨Ar6, Ir6, Kr6⟩
  have ba9 := Fa9.binds (ps := ["_law_cell"]) fun _ _ _ _ _ _ us hl => match us, hl with | [_], _ => rfl
  have ga9 := PySem.W.mg_of X G Aa9
  have ba10 := Fa10.binds (ps := ["_law_source", "_law_many"]) fun _ _ _ _ _ _ us hl => match us, hl with | [_, _], _ => rfl
  have ga10 := PySem.W.mg_of X G Aa10
  have ba11 := Fa11.binds (ps := ["_law_source", "_law_options"]) fun _ _ _ _ _ _ us hl => match us, hl with | [_, _], _ => rfl
  have ga11 := PySem.W.mg_of X G Aa11
  have ba12 := Fa12.binds (ps := ["_law_script", "_law_k"]) fun _ _ _ _ _ _ us hl => match us, hl with | [_, _], _ => rfl
  have ga12 := PySem.W.mg_of X G Aa12
  have ba13 := Fa13.binds (ps := ["_law_source"]) fun _ _ _ _ _ _ us hl => match us, hl with | [_], _ => rfl
  have ga13 := PySem.W.mg_of X G Aa13
  have ba14 := Fa14.binds (ps := ["word"]) fun _ _ _ _ _ _ us hl => match us, hl with | [_], _ => rfl
  have ga14 := PySem.W.mg_of X G Aa14
  have ba15 := Fa15.binds (ps := ["word", "mark"]) fun _ _ _ _ _ _ us hl => match us, hl with | [_, _], _ => rfl
  have ga15 := PySem.W.mg_of X G Aa15
  have ba16 := Fa16.binds (ps := ["text"]) fun _ _ _ _ _ _ us hl => match us, hl with | [_], _ => rfl
  have ga16 := PySem.W.mg_of X G Aa16
  have ba17 := Fa17.binds (ps := ["lines", "number"]) fun _ _ _ _ _ _ us hl => match us, hl with | [_, _], _ => rfl
  have ga17 := PySem.W.mg_of X G Aa17
  have bl18 := Fl18.binds (ps := ["self", "lines", "number"]) fun _ _ _ _ _ _ us hl => match us, hl with | [_, _, _], _ => rfl
  have el18 : Meth K CLi "__init__" fl18 := ⟨Al18, Il18, Kl18⟩
  have bl19 := Fl19.binds (ps := ["self", "words"]) fun _ _ _ _ _ _ us hl => match us, hl with | [_, _], _ => rfl
  have el19 : Meth K CLi "one_of" fl19 := ⟨Al19, Il19, Kl19⟩
  have bl20 := Fl20.binds (ps := ["self"]) fun _ _ _ _ _ _ us hl => match us, hl with | [_], _ => rfl
  have el20 : Meth K CLi "whole" fl20 := ⟨Al20, Il20, Kl20⟩
  have bl21 := Fl21.binds (ps := ["self"]) fun _ _ _ _ _ _ us hl => match us, hl with | [_], _ => rfl
  have el21 : Meth K CLi "wholes" fl21 := ⟨Al21, Il21, Kl21⟩
  have bl22 := Fl22.binds (ps := ["self"]) fun _ _ _ _ _ _ us hl => match us, hl with | [_], _ => rfl
  have el22 : Meth K CLi "finish" fl22 := ⟨Al22, Il22, Kl22⟩
  have bl23 := Fl23.binds (ps := ["self", "mark"]) fun _ _ _ _ _ _ us hl => match us, hl with | [_, _], _ => rfl
  have el23 : Meth K CLi "pairs" fl23 := ⟨Al23, Il23, Kl23⟩
  have br24 := Fr24.binds (ps := ["self"]) fun _ _ _ _ _ _ us hl => match us, hl with | [_], _ => rfl
  have er24 : Meth K C "gaps" fr24 := ⟨Ar24, Ir24, Kr24⟩
  have br25 := Fr25.binds (ps := ["self"]) fun _ _ _ _ _ _ us hl => match us, hl with | [_], _ => rfl
  have er25 : Meth K C "tail" fr25 := ⟨Ar25, Ir25, Kr25⟩
  have ba26 := Fa26.binds (ps := ["words"]) fun _ _ _ _ _ _ us hl => match us, hl with | [_], _ => rfl
  have ga26 := PySem.W.mg_of X G Aa26
  have ba27 := Fa27.binds (ps := ["value"]) fun _ _ _ _ _ _ us hl => match us, hl with | [_], _ => rfl
  have ga27 := PySem.W.mg_of X G Aa27
  have ba28 := Fa28.binds (ps := ["rule"]) fun _ _ _ _ _ _ us hl => match us, hl with | [_], _ => rfl
  have ga28 := PySem.W.mg_of X G Aa28
  have ba29 := Fa29.binds (ps := ["line"]) fun _ _ _ _ _ _ us hl => match us, hl with | [_], _ => rfl
  have ga29 := PySem.W.mg_of X G Aa29
  have ba30 := Fa30.binds (ps := ["text"]) fun _ _ _ _ _ _ us hl => match us, hl with | [_], _ => rfl
  have ga30 := PySem.W.mg_of X G Aa30
  have ba31 := Fa31.binds (ps := ["value"]) fun _ _ _ _ _ _ us hl => match us, hl with | [_], _ => rfl
  have ga31 := PySem.W.mg_of X G Aa31
  have ba32 := Fa32.binds (ps := ["log"]) fun _ _ _ _ _ _ us hl => match us, hl with | [_], _ => rfl
  have ga32 := PySem.W.mg_of X G Aa32
  have ba33 := Fa33.binds (ps := ["text"]) fun _ _ _ _ _ _ us hl => match us, hl with | [_], _ => rfl
  have ga33 := PySem.W.mg_of X G Aa33
  have ba34 := Fa34.binds (ps := ["_law_source"]) fun _ _ _ _ _ _ us hl => match us, hl with | [_], _ => rfl
  have ga34 := PySem.W.mg_of X G Aa34
  have br35 := Fr35.binds (ps := ["self", "other"]) fun _ _ _ _ _ _ us hl => match us, hl with | [_, _], _ => rfl
  have er35 : Meth K C "__eq__" fr35 := ⟨Ar35, Ir35, Kr35⟩

  refine ⟨PySem.W.fnOf "law" "law" (defArgs s_law) (defBody s_law) (defScope s_law) .none kVa0 dca0 pma0 ana0 cda0 cta0, fun s v => .of_eq rfl, fun base _ _ => ?_⟩
  have G0 := ok_isInt (mg := mg) (P := l.prog) (w := w) (base := base) Fa1 T
  have G10 := ok_init (mg := mg) (P := l.prog) (w := w) (base := base) Fr6 T Fa1 ba1 ga1 Fa2 ba2 ga2 Fa3 ba3 ga3 Fa4 ba4 ga4
  have G18 := ok_srcOf (mg := mg) (P := l.prog) (w := w) (base := base) Fa9 T
  have G20 := ok_next (mg := mg) (P := l.prog) (w := w) (base := base) Fa10 T
  have G22 := ok_one (mg := mg) (P := l.prog) (w := w) (base := base) Fa11 T Fa10 ba10 ga10
  have G24 := ok_cell (mg := mg) (P := l.prog) (w := w) (base := base) Fa12 T
  have G26 := ok_spec (mg := mg) (P := l.prog) (w := w) (base := base) Fa13 T Fa10 ba10 ga10 Fa11 ba11 ga11
  have G28 := ok_isNum (mg := mg) (P := l.prog) (w := w) (base := base) Fa14 T ⟨tD, PySem.W.mg_of X G c_tD⟩
  have G30 := ok_isPair (mg := mg) (P := l.prog) (w := w) (base := base) Fa15 T G28 ba14 ga14 Ka14
  have G32 := ok_lines (mg := mg) (P := l.prog) (w := w) (base := base) Fa16 T
  have G34 := ok_noLine (mg := mg) (P := l.prog) (w := w) (base := base) Fa17 T
  have G36 := ok_ln (mg := mg) (P := l.prog) (w := w) (base := base) Fl18 T TL
  have G38 := ok_of (mg := mg) (P := l.prog) (w := w) (base := base) Fl19 T TL
  have G40 := ok_wh (mg := mg) (P := l.prog) (w := w) (base := base) Fl20 T TL G28 ba14 ga14 Ka14
  have G42 := ok_ws (mg := mg) (P := l.prog) (w := w) (base := base) Fl21 T TL G28 ba14 ga14 Ka14 G40 bl20 el20
  have G44 := ok_fi (mg := mg) (P := l.prog) (w := w) (base := base) Fl22 T TL
  have G46 := ok_ps (mg := mg) (P := l.prog) (w := w) (base := base) Fl23 T TL G30 ba15 ga15 Ka15
  have G48 := ok_gaps (mg := mg) (P := l.prog) (w := w) (base := base) Fr24 T
  have G50 := ok_tail (mg := mg) (P := l.prog) (w := w) (base := base) Fr25 T
  have G52 := ok_jo (mg := mg) (P := l.prog) (w := w) (base := base) Fa26 T
  have G54 := ok_cr (mg := mg) (P := l.prog) (w := w) (base := base) Fa27 T IC
  have G56 := ok_fm (mg := mg) (P := l.prog) (w := w) (base := base) Fa28 T G54 ba27 ga27 Ka27 G52 ba26 ga26 Ka26 G48 br24 er24 G50 br25 er25
  have G58 := ok_rr (mg := mg) (P := l.prog) (w := w) (base := base) Fa29 T TL G42 bl21 el21 G38 bl19 el19 G40 bl20 el20 G44 bl22 el22
  have G60 := ok_pr (mg := mg) (P := l.prog) (w := w) (base := base) Fa30 T TL M G10 br6 M_l G36 bl18 G32 ba16 ga16 Ka16 G58 ba29 ga29 Ka29 G34 ba17 ga17 Ka17
  have G62 := ok_two (mg := mg) (P := l.prog) (w := w) (base := base) Fa31 T G0 ba1 ga1 Ka1
  have G64 := ok_fl (mg := mg) (P := l.prog) (w := w) (base := base) Fa32 T G62 ba31 ga31 Ka31 G52 ba26 ga26 Ka26
  have G66 := ok_pl (mg := mg) (P := l.prog) (w := w) (base := base) Fa33 T TL M_l G36 bl18 G32 ba16 ga16 Ka16 G46 bl23 el23 G44 bl22 el22 G34 ba17 ga17 Ka17
  have G68 := ok_nb (mg := mg) (P := l.prog) (w := w) (base := base) Fa34 T G20 ba10 ga10 Ka10 G22 ba11 ga11 Ka11
  have G70 := ok_eq (mg := mg) (P := l.prog) (w := w) (base := base) Fr35 T IC
  exact ok_law (P := l.prog) (w := w) (base := base) Fa0 T M G10 br6 G24 ba12 ga12 Ka12 G18 ba9 ga9 Ka9 G26 ba13 ga13 Ka13 G20 ba10 ga10 Ka10 G68 ba34 ga34 Ka34 G56 ba28 ga28 Ka28 (kb_fm Fa28) G60 ba30 ga30 Ka30 (kb_pr Fa30) G64 ba32 ga32 Ka32 (kb_fl Fa32) G66 ba33 ga33 Ka33 (kb_pl Fa33) G70 br35 ⟨Ar35, ine, Ir35, ihm⟩
/-- the end of the walk, with what the top left loose -/
theorem walk_x {l : PySem.W.OpenLaw} {q : Program} {loose : List Str} {XP : (Str → Option Value) → Heap → Prop} {YP : World → Heap → Prop} {d : DefRec} {K : Params → PySem.W.Frag} (hn : l.most = some 63) (hdf : d.params.defaults = [])
    (hY : ∀ (w : World) (h : Heap), YP w h → (K w.params).In h)
    (F : ∀ (w : World) (mg : Str → Option Value) (fa : Addr) (h : Heap), (K w.params).In h → h.Ns mainGlobals mg → mg d.name = some (.ref fa) → XP mg h →
      ∃ fd : FuncData, (∀ (s : Shared) (u : Value), BindsTo s fd ⟨[u], []⟩ [("_law_script", u)]) ∧ ∀ base : Heap, (K w.params).In base → base.Ns mainGlobals mg → FnOk l.prog w (K w.params) mg base CX0 6 fa fd ["_law_script"] (spLaw (K w.params))) :
    PySem.W.WalkO q loose XP YP l.row.toRowW d [] (fun f vs => PySem.call f vs) := by
  refine Att.attach_call hn hdf ?_
  intro w _ s1 mg _ fa _ _ _ _ a vs ns G Y _ _ _ hmg hobj hints hlen hg
  obtain ⟨fd, hb, hF⟩ := F w mg fa _ (hY w _ Y) G.T.g hmg G.X
  refine law_call (hY w _ Y) G.T.g G.T.b G.T.builtins G.T.nolimit hg hobj hints ?_ ?_ hF hb ?_ ?_
  · exact Nat.le_trans hlen (by decide)
  · exact ⟨rfl, by decide, by decide⟩
  · exact fun H _ hS => ⟨a, ns, rfl, hS, hlen, fun _ => rfl⟩
  · exact fun H e s' z => z
theorem long_of {p : Program} {mg : Str → Option Value} {h : Heap} (x : PySem.W.XL p [("_LONGEST_GAP", .int 1000000000000)] mg h) : ∃ t, mg "_LONGEST_GAP" = some (.int 1000000000000 t) := by
  obtain ⟨v, e, r⟩ := x.2.val _ (List.mem_singleton.mpr rfl)
  cases r
  exact ⟨_, e⟩
end RS
open PySem PySem.W PyProof.Rows
set_option maxRecDepth 100000 in
set_option maxHeartbeats 0 in
theorem PySem.Challenge.cw_retryslots_k84_rules_and_logs_as_texts_holds : PySem.Challenge.rw_retryslots_k84_rules_and_logs_as_texts.Holds := by
  w_on; o_law; k_head; (case hw => w_witness2)
  k_fill
  refine RS.walk_x (l := PySem.Challenge.rw_retryslots_k84_rules_and_logs_as_texts) rfl rfl (fun w h Y => PySem.W.kIn_of Y) ?F
  case F =>
    intro w mg fa h KX G hmg XX
    refine' RS.all_mk KX G hmg (RS.long_of XX) ?Aa0 ?La0 ?Ca0 ?Ka0 ?Aa1 ?La1 ?Ca1 ?Ka1 ?Aa2 ?La2 ?Ca2 ?Ka2 ?Aa3 ?La3 ?Ca3 ?Ka3 ?Aa4 ?La4 ?Ca4 ?Ka4 ?Ar6 ?Ir6 ?Lr6 ?Cr6 ?Kr6 ?Aa9 ?La9 ?Ca9 ?Ka9 ?Aa10 ?La10 ?Ca10 ?Ka10 ?Aa11 ?La11 ?Ca11 ?Ka11 ?Aa12 ?La12 ?Ca12 ?Ka12 ?Aa13 ?La13 ?Ca13 ?Ka13 ?Aa14 ?La14 ?Ca14 ?Ka14 ?Aa15 ?La15 ?Ca15 ?Ka15 ?Aa16 ?La16 ?Ca16 ?Ka16 ?Aa17 ?La17 ?Ca17 ?Ka17 ?Al18 ?Il18 ?Ll18 ?Cl18 ?Kl18 ?Al19 ?Il19 ?Ll19 ?Cl19 ?Kl19 ?Al20 ?Il20 ?Ll20 ?Cl20 ?Kl20 ?Al21 ?Il21 ?Ll21 ?Cl21 ?Kl21 ?Al22 ?Il22 ?Ll22 ?Cl22 ?Kl22 ?Al23 ?Il23 ?Ll23 ?Cl23 ?Kl23 ?Ar24 ?Ir24 ?Lr24 ?Cr24 ?Kr24 ?Ar25 ?Ir25 ?Lr25 ?Cr25 ?Kr25 ?Aa26 ?La26 ?Ca26 ?Ka26 ?Aa27 ?La27 ?Ca27 ?Ka27 ?Aa28 ?La28 ?Ca28 ?Ka28 ?Aa29 ?La29 ?Ca29 ?Ka29 ?Aa30 ?La30 ?Ca30 ?Ka30 ?Aa31 ?La31 ?Ca31 ?Ka31 ?Aa32 ?La32 ?Ca32 ?Ka32 ?Aa33 ?La33 ?Ca33 ?Ka33 ?Aa34 ?La34 ?Ca34 ?Ka34 ?Ar35 ?Ir35 ?Lr35 ?Cr35 ?Kr35 ?aC ?pg ?hd ?po ?sa ?mk ?kc ?n0 ?n1 ?n2 ?iha ?ihm ?ine ?aC_l ?pg_l ?hd_l ?po_l ?sa_l ?mk_l ?kc_l ?n0_l ?n1_l ?n2_l ?ihn ?iht ?z_len ?z_isinstance ?z_int ?z_bool ?z_list ?z_tuple ?z_str ?z_all ?z_range ?z_divmod ?z_sum ?z_max ?z_min ?z_sorted ?z_set ?z_any ?z_enumerate ?c_tM ?c_tF ?c_tL ?c_tD
    (case aC => k_is)
    (case aC_l => k_is)
    (case Aa0 => k_is)
    (case La0 => k_is)
    (case Ca0 => k_is)
    (case Ka0 => k_is)
    (case Aa1 => k_is)
    (case La1 => k_is)
    (case Ca1 => k_is)
    (case Ka1 => k_is)
    (case Aa2 => k_is)
    (case La2 => k_is)
    (case Ca2 => k_is)
    (case Ka2 => k_is)
    (case Aa3 => k_is)
    (case La3 => k_is)
    (case Ca3 => k_is)
    (case Ka3 => k_is)
    (case Aa4 => k_is)
    (case La4 => k_is)
    (case Ca4 => k_is)
    (case Ka4 => k_is)
    (case Ar6 => k_is)
    (case Ir6 => k_is)
    (case Lr6 => k_is)
    (case Cr6 => k_is)
    (case Kr6 => k_is)
    (case Aa9 => k_is)
    (case La9 => k_is)
    (case Ca9 => k_is)
    (case Ka9 => k_is)
    (case Aa10 => k_is)
    (case La10 => k_is)
    (case Ca10 => k_is)
    (case Ka10 => k_is)
    (case Aa11 => k_is)
    (case La11 => k_is)
    (case Ca11 => k_is)
    (case Ka11 => k_is)
    (case Aa12 => k_is)
    (case La12 => k_is)
    (case Ca12 => k_is)
    (case Ka12 => k_is)
    (case Aa13 => k_is)
    (case La13 => k_is)
    (case Ca13 => k_is)
    (case Ka13 => k_is)
    (case Aa14 => k_is)
    (case La14 => k_is)
    (case Ca14 => k_is)
    (case Ka14 => k_is)
    (case Aa15 => k_is)
    (case La15 => k_is)
    (case Ca15 => k_is)
    (case Ka15 => k_is)
    (case Aa16 => k_is)
    (case La16 => k_is)
    (case Ca16 => k_is)
    (case Ka16 => k_is)
    (case Aa17 => k_is)
    (case La17 => k_is)
    (case Ca17 => k_is)
    (case Ka17 => k_is)
    (case Al18 => k_is)
    (case Il18 => k_is)
    (case Ll18 => k_is)
    (case Cl18 => k_is)
    (case Kl18 => k_is)
    (case Al19 => k_is)
    (case Il19 => k_is)
    (case Ll19 => k_is)
    (case Cl19 => k_is)
    (case Kl19 => k_is)
    (case Al20 => k_is)
    (case Il20 => k_is)
    (case Ll20 => k_is)
    (case Cl20 => k_is)
    (case Kl20 => k_is)
    (case Al21 => k_is)
    (case Il21 => k_is)
    (case Ll21 => k_is)
    (case Cl21 => k_is)
    (case Kl21 => k_is)
    (case Al22 => k_is)
    (case Il22 => k_is)
    (case Ll22 => k_is)
    (case Cl22 => k_is)
    (case Kl22 => k_is)
    (case Al23 => k_is)
    (case Il23 => k_is)
    (case Ll23 => k_is)
    (case Cl23 => k_is)
    (case Kl23 => k_is)
    (case Ar24 => k_is)
    (case Ir24 => k_is)
    (case Lr24 => k_is)
    (case Cr24 => k_is)
    (case Kr24 => k_is)
    (case Ar25 => k_is)
    (case Ir25 => k_is)
    (case Lr25 => k_is)
    (case Cr25 => k_is)
    (case Kr25 => k_is)
    (case Aa26 => k_is)
    (case La26 => k_is)
    (case Ca26 => k_is)
    (case Ka26 => k_is)
    (case Aa27 => k_is)
    (case La27 => k_is)
    (case Ca27 => k_is)
    (case Ka27 => k_is)
    (case Aa28 => k_is)
    (case La28 => k_is)
    (case Ca28 => k_is)
    (case Ka28 => k_is)
    (case Aa29 => k_is)
    (case La29 => k_is)
    (case Ca29 => k_is)
    (case Ka29 => k_is)
    (case Aa30 => k_is)
    (case La30 => k_is)
    (case Ca30 => k_is)
    (case Ka30 => k_is)
    (case Aa31 => k_is)
    (case La31 => k_is)
    (case Ca31 => k_is)
    (case Ka31 => k_is)
    (case Aa32 => k_is)
    (case La32 => k_is)
    (case Ca32 => k_is)
    (case Ka32 => k_is)
    (case Aa33 => k_is)
    (case La33 => k_is)
    (case Ca33 => k_is)
    (case Ka33 => k_is)
    (case Aa34 => k_is)
    (case La34 => k_is)
    (case Ca34 => k_is)
    (case Ka34 => k_is)
    (case Ar35 => k_is)
    (case Ir35 => k_is)
    (case Lr35 => k_is)
    (case Cr35 => k_is)
    (case Kr35 => k_is)
    (case pg => k_is)
    (case hd => k_is)
    (case po => k_is)
    (case sa => k_is)
    (case mk => k_is)
    (case kc => k_is)
    (case n0 => k_is)
    (case n1 => k_is)
    (case n2 => k_is)
    (case iha => k_is)
    (case ihm => k_is)
    (case ine => k_is)
    (case pg_l => k_is)
    (case hd_l => k_is)
    (case po_l => k_is)
    (case sa_l => k_is)
    (case mk_l => k_is)
    (case kc_l => k_is)
    (case n0_l => k_is)
    (case n1_l => k_is)
    (case n2_l => k_is)
    (case ihn => k_is)
    (case iht => k_is)
    (case z_len => k_is)
    (case z_isinstance => k_is)
    (case z_int => k_is)
    (case z_bool => k_is)
    (case z_list => k_is)
    (case z_tuple => k_is)
    (case z_str => k_is)
    (case z_all => k_is)
    (case z_range => k_is)
    (case z_divmod => k_is)
    (case z_sum => k_is)
    (case z_max => k_is)
    (case z_min => k_is)
    (case z_sorted => k_is)
    (case z_set => k_is)
    (case z_any => k_is)
    (case z_enumerate => k_is)
    (case c_tM => k_is)
    (case c_tF => k_is)
    (case c_tL => k_is)
    (case c_tD => k_is)

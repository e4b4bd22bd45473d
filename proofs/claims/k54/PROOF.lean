import PyProof.Rows.All
import Wide.All
import OpenK.AllK
import Wide.FinOn
import HandS.ForMost
import HandS.Evl
import HandS.Wide
import HandS.WideBits
import HandS.IsInst
import KE.KEqDeep
import KE.KMinKey
import HandS.Codes
import HandS.OwnEq
import PyProof.InstNe
import HandS.MakeKwOnly
import HandS.SortKw
import HandS.Defaults
import HandS.Exc
import HandS.TryOnly
import HandS.TryMany
import HandS.ExcOwn
import HandS.WordsExc
import HandS.More
import HandS.Lambda
import KE.KExcIs
import HandS.HotCalls
import HandS.ExcInit
import KE.KExcInit
import HandS.Walk
import HandS.Flow
import HandS.Style
import HandS.Star
import HandS.Iter
import PyProof.ReprRoads
import HandS.EndTab
import KE.DataFind
import HandS.SetFor
import HandS.Strs
import HandS.SortInts
import HandS.Conv
import HandS.SetKeys
import KE.DataMinMax
import KE.SortData
import HandS.NoneIn
import HandS.WordsDict
import KE.KDictSum
import HandS.ExcValue
import HandS.DictComp
import HandS.ListItems
import HandS.SortRule
import PySem.Challenge.RW_retryslots_k54_starts_inferred
set_option Elab.async false
set_option maxRecDepth 100000
set_option maxHeartbeats 2000000
namespace RS
open PySem L2
def top (i : Nat) : Stmt := PySem.Challenge.pw_retryslots_k54_starts_inferred.main.body.getD i (.Pass ⟨0, 0, 0, 0⟩)
abbrev s_wall : Stmt := top 0
abbrev s_InvalidRule_ddinitdd : Stmt := inClass (top 3) 0
abbrev s_InvalidAttempt_ddinitdd : Stmt := inClass (top 4) 0
abbrev s_InvalidSlot_ddinitdd : Stmt := inClass (top 5) 0
abbrev s_InvalidLog_ddinitdd : Stmt := inClass (top 6) 0
abbrev s_InvalidBound_ddinitdd : Stmt := inClass (top 7) 0
abbrev s_LimitExceeded_ddinitdd : Stmt := inClass (top 8) 0
abbrev s_is_integer : Stmt := top 10
abbrev s_are_gaps : Stmt := top 13
abbrev s_are_slots : Stmt := top 14
abbrev s_are_two_integers : Stmt := top 15
abbrev s_sums : Stmt := top 17
abbrev s_attempts_before : Stmt := top 18
abbrev s_infer_starts : Stmt := top 21
abbrev s_check_window : Stmt := top 22
abbrev s_check_log : Stmt := top 23
abbrev s_up_to_unlogged : Stmt := top 24
abbrev s_Rule_ddinitdd : Stmt := inClass (top 29) 0
abbrev s_Rule_ddeqdd : Stmt := inClass (top 29) 1
abbrev s_Rule_gaps : Stmt := inClass (top 29) 2
abbrev s_Rule_tail : Stmt := inClass (top 29) 3
abbrev s_Rule_attempts : Stmt := inClass (top 29) 4
abbrev s_Rule_gap : Stmt := inClass (top 29) 5
abbrev s_Rule_offset : Stmt := inClass (top 29) 6
abbrev s_Rule_first_from : Stmt := inClass (top 29) 7
abbrev s_Rule_attempt_at : Stmt := inClass (top 29) 8
abbrev s_Rule_period : Stmt := inClass (top 29) 9
abbrev s_Rule_least_gap : Stmt := inClass (top 29) 10
abbrev s_Rule_first_repeating : Stmt := inClass (top 29) 11
abbrev s_Rule_offsets_between : Stmt := inClass (top 29) 12
abbrev s_Rule_check_attempt : Stmt := inClass (top 29) 13
abbrev s_Rule_offset_of : Stmt := inClass (top 29) 14
abbrev s_Rule_first_growing : Stmt := inClass (top 29) 15
abbrev s_Rule_surely_short : Stmt := inClass (top 29) 16
abbrev s_Rule_first_repeated : Stmt := inClass (top 29) 17
abbrev s_is_tail : Stmt := top 30
abbrev s_first_at_least : Stmt := top 31
abbrev s_power : Stmt := top 32
abbrev s_law_cell_at : Stmt := top 34
abbrev s_law_source_of : Stmt := top 35
abbrev s_law_draw : Stmt := top 36
abbrev s_law_choice : Stmt := top 37
abbrev s_law_tail : Stmt := top 38
abbrev s_law_offsets : Stmt := top 39
abbrev s_law_counted : Stmt := top 40
abbrev s_law_plan : Stmt := top 41
abbrev s_law_walked : Stmt := top 42
abbrev s_law_changed : Stmt := top 43
abbrev s_law : Stmt := top 44
/-! ### what the walk asks of the text's top -/
structure Txt (K : PySem.W.Frag) (mg : Str → Option Value) (C : Addr) : Prop where
  cl : Cls K C
  nG : NoAttr K C "_gaps"
  nT : NoAttr K C "_tail"
  nO : NoAttr K C "_offsets"
  mgC : mg "Rule" = some (.ref C)
  len : mg "len" = none
  isi : mg "isinstance" = none
  int : mg "int" = none
  bool : mg "bool" = none
  list : mg "list" = none
  tuple : mg "tuple" = none
  str : mg "str" = none
  all : mg "all" = none
  range : mg "range" = none
  divmod : mg "divmod" = none
  sum : mg "sum" = none
  max : mg "max" = none
  min : mg "min" = none
  sorted : mg "sorted" = none
  set : mg "set" = none
  any : mg "any" = none
  enum : mg "enumerate" = none
  mMost : ∃ t, mg "_MOST_GAPS" = some (.int 20 t)
  mLong : ∃ t, mg "_LONGEST_GAP" = some (.int 1000000000000 t)
  mFact : ∃ t, mg "_GREATEST_FACTOR" = some (.int 1000 t)
  mLast : ∃ t, mg "LAST_GROWING" = some (.int 1000 t)

/-! ### the data -/
/-- a rule's tail -/
inductive Tl where
  | fin
  | times (b : Int)
  | rep (n : Nat)
def Tl.vs : Tl → List V
  | .fin => [.str "end"]
  | .times b => [.str "times", .int b]
  | .rep n => [.str "repeat", .int (n : Int)]
def GapsOk (gs : List Int) : Prop := gs.length ≤ 20 ∧ ∀ g ∈ gs, 1 ≤ g ∧ g ≤ 1000000000000
def TlOk (many : Nat) : Tl → Prop
  | .fin => True
  | .times b => 0 < many ∧ 2 ≤ b ∧ b ≤ 1000
  | .rep n => 1 ≤ n ∧ n ≤ many
/-- the sum of the first k gaps -/
def pre (gs : List Int) (k : Nat) : Int := (gs.take k).sum
def offs (gs : List Int) : List Int := (List.range (gs.length + 1)).map (pre gs)
theorem offs_len (gs : List Int) : (offs gs).length = gs.length + 1 := by simp [offs]
theorem offs_get (gs : List Int) {k : Nat} (h : k ≤ gs.length) : (offs gs)[k]? = some (pre gs k) := by
  unfold offs
  rw [List.getElem?_map, List.getElem?_range (by omega)]
  rfl
theorem pre_zero (gs : List Int) : pre gs 0 = 0 := rfl
theorem pre_succ (gs : List Int) {k : Nat} {g : Int} (h : gs[k]? = some g) : pre gs (k + 1) = pre gs k + g := by
  unfold pre
  rw [List.take_add_one, h, List.sum_append]
  simp
theorem iteFb {b : Bool} {A B : Prop} (e : b = false) (h : B) : if b = true then A else B := by
  rw [e]
  exact iteF h
theorem iteTb {b : Bool} {A B : Prop} (e : b = true) (h : A) : if b = true then A else B := by
  rw [e]
  exact iteT h
theorem yes_t {Q : Bool → Hp → Prop} {σ : L2.St} {H : Hp} (h : Q true H) : tYes σ H Q := h
theorem at_map {xs : List Int} {j : Nat} {v : Int} (h : xs[j]? = some v) : atI (xs.map V.int) (j : Int) = some (.int v) := atI_nat (by rw [List.getElem?_map, h]; rfl)
theorem at_back {α : Type} {xs : List α} {j : Nat} {v : α} (h0 : 0 < j) (hj : j ≤ xs.length) (h : xs[xs.length - j]? = some v) : atI xs (-(j : Int)) = some v := by
  have e : ixN xs.length (-(j : Int)) = some (xs.length - j) := by
    unfold ixN
    rw [if_neg (by omega), if_pos (by omega)]
    congr 1
    omega
  unfold atI
  rw [e]
  exact h
theorem at_back1 {α : Type} {xs : List α} {v : α} (hj : 0 < xs.length) (h : xs[xs.length - 1]? = some v) : atI xs (-1) = some v := at_back (j := 1) (by omega) hj h

section
variable {P : Program} {w : World} {K : PySem.W.Frag} {mg : Str → Option Value} {base : Heap}
/-! ### is_integer -/
def spIsInt : Sp := fun vs H Q _ => ∃ i, vs = [.int i] ∧ Q (.bl true) H
theorem scIsInt : FnScope ["value"] ["value"] (defScope s_is_integer) := ⟨rfl, rfl, rfl, by decide +kernel, rfl, by decide +kernel, by decide +kernel⟩
theorem ok_isInt {f C : Addr} {fd : FuncData} (F : Fun K "is_integer" "is_integer" s_is_integer f fd) (T : Txt K mg C) : FnOk P w K mg base CX0 1 f fd ["value"] spIsInt := by
  refine F.ok scIsInt (fun vs H Q E h => ?_) (fun cdv A outer s H vs Q E hr h => ?_)
  · obtain ⟨i, rfl, _⟩ := h
    rfl
  · obtain ⟨i, rfl, k⟩ := h
    refine ⟨_, pss_one (ps_ret (pe_and (pe_callB call_isi (by rfl) T.isi (by decide +kernel) (pa_cons (pv 0) (pa_cons (pe_bltn (v := .ty "int") (by rfl) T.int (by decide +kernel) rfl) pa_nil))) (pe_one (pe_not (pe_callB call_isi (by rfl) T.isi (by decide +kernel) (pa_cons (pv 0) (pa_cons (pe_bltn (v := .ty "bool") (by rfl) T.bool (by decide +kernel) rfl) pa_nil))))))), ?_⟩
    refine ⟨_, rfl, _, _, _, _, _, rfl, .ty _, .base (.int i), kit_ty (r := true) (by decide +kernel), true, rfl, ?_⟩
    refine iteT ?_
    exact ⟨_, rfl, _, _, _, _, _, rfl, .ty _, .base (.int i), kit_ty (r := false) (by decide +kernel), false, rfl, k⟩

/-! ### _are_gaps -/
def spAreGaps : Sp := fun vs H Q _ => ∃ a gs, ∃ most : Nat, vs = [.ref a, .int (most : Int)] ∧ H a = some (.lst (gs.map V.int)) ∧ GapsOk gs ∧ gs.length ≤ most ∧ ∀ H', Same H H' → Q (.bl true) H'
theorem scAreGaps : FnScope ["value", "most", "gap"] ["value", "most"] (defScope s_are_gaps) := ⟨rfl, rfl, rfl, by decide +kernel, rfl, by decide +kernel, by decide +kernel⟩
theorem ok_areGaps {f C fi : Addr} {fd fdi : FuncData} (F : Fun K "are_gaps" "are_gaps" s_are_gaps f fd) (T : Txt K mg C) (FI : Fun K "is_integer" "is_integer" s_is_integer fi fdi) (bI : Binds K fdi ["value"] []) (mI : mg "is_integer" = some (.ref fi)) : FnOk P w K mg base CX0 2 f fd ["value", "most"] spAreGaps := by
  have GI : FnOk P w K mg base CX0 1 fi fdi ["value"] spIsInt := ok_isInt FI T
  obtain ⟨t2, m2⟩ := T.mLong
  refine F.ok scAreGaps (fun vs H Q E h => ?_) (fun cdv A outer s H vs Q E hr h => ?_)
  · obtain ⟨a, gs, most, rfl, _⟩ := h
    rfl
  · obtain ⟨a, gs, most, rfl, ha, ok, okm, k⟩ := h
    refine ⟨_, (pss_cons (ps_if (PW.pt (pw_or (pt_not (pt_val (pe_callB call_isi (by rfl) T.isi (by decide +kernel) (pa_cons (pv 0) (pa_cons (pe_bltn (v := .ty "list") (by rfl) T.list (by decide +kernel) rfl) pa_nil))))) (pw_or1 (pt_cmpR op_gt (pe_callB call_len_seq (by rfl) T.len (by decide +kernel) (pa_cons (pv 0) pa_nil)) (pv 1) (nomark _))))) (pss_one (ps_ret pe_bl)) pss_nil) (pss_one (ps_ret (pe_callB (cr_all rfl) (by rfl) T.all (by decide +kernel) (pa_cons (pe_lc (own := [("gap", 2)]) (g := gName 2) (tt := tYes) rfl scAreGaps.nd (pi_list (pv 0)) (blkOk_by (own := [("gap", 2)]) (N := ["value", "most", "gap"]) (sc := defScope s_are_gaps) (by decide +kernel))
          (fun _ _ _ _ _ => (pg_name (i := 2) scAreGaps.nd rfl (Or.inl rfl))) (fun _ _ _ _ _ => pts_nil)
          (fun _ _ _ _ _ => pe_and (pe_call GI hr rfl mI FI.kp bI .nil pass0 (pa_cons (pv 2) pa_nil)) (pe_one (pe_chain op_le op_le pe_int (pv 2) (pe_glob (v := .int 1000000000000) rfl m2 ⟨_, rfl⟩))))) pa_nil))))), ?_⟩
    refine ⟨_, rfl, _, _, _, _, _, rfl, .ty _, .base (.lst ha), kit_ty (r := true) (by decide +kernel), true, rfl, ?_⟩
    refine iteF ?_
    refine ⟨_, rfl, a, _, rfl, .inl (SqL.of ha), _, rfl, _, _, rfl, rfl, _, rfl, ?_⟩
    refine iteFb (decide_eq_false (by rw [List.length_map]; omega)) ?_
    refine ⟨_, rfl, a, rfl, ⟨_, SqL.of ha⟩, fun D hD => lc_list (a := a) (xs := gs.map V.int) (fun i H' => Same H H' ∧ H' D = some (.lst ((List.replicate i true).map V.bl))) ⟨?_, upd_same⟩ (fun i H' _ p => p.1.seq (SqL.of ha)) (fun i x H' hx p => ?_) (fun H' p => ?_)⟩
    · intro b o e
      rw [upd_ne (ne_of_none e hD)]
      exact e
    · obtain ⟨g, hg, rfl⟩ : ∃ g, gs[i]? = some g ∧ x = .int g := by
        rw [List.getElem?_map] at hx
        cases e : gs[i]? with
        | none => rw [e] at hx; cases hx
        | some g => rw [e] at hx; exact ⟨g, rfl, (Option.some.inj hx).symm⟩
      have hb := ok.2 g (List.mem_of_getElem? hg)
      have hi : i < gs.length := (List.getElem?_eq_some_iff.mp hg).1
      refine ⟨rfl, ?_⟩
      refine yes_t (iteT ?_)
      refine ⟨_, rfl, g, rfl, true, rfl, iteT ?_⟩
      refine ⟨_, rfl, _, _, rfl, rfl, _, rfl, iteTb (decide_eq_true hb.1) ?_⟩
      refine ⟨_, _, rfl, rfl, _, p.2, ?_, fun b o e => ?_, ?_⟩
      · rw [List.length_map, List.length_replicate]
        exact small1000 (by have := ok.1; omega)
      · rw [upd_ne (ne_of_none e hD)]
        exact p.1 b o e
      · rw [upd_same, List.replicate_succ', List.map_append]
        show some (HO.lst (List.map V.bl (List.replicate i true) ++ [V.bl (decide (g ≤ 1000000000000))])) = _
        rw [decide_eq_true hb.2]
        rfl
    · refine ⟨D, _, rfl, SqL.of p.2, ?_⟩
      have e : (List.replicate (gs.map V.int).length true).all id = true := by
        rw [List.all_eq_true]
        intro x hx
        rw [(List.mem_replicate.mp hx).2]
        rfl
      rw [e]
      exact k H' p.1

/-! ### _is_tail -/
def spIsTail : Sp := fun vs H Q _ => ∃ (t : Addr) (tl : Tl) (n : Nat), vs = [.ref t, .int (n : Int)] ∧ H t = some (.tup tl.vs) ∧ TlOk n tl ∧ ∀ H', Same H H' → Q (.bl true) H'
theorem scIsTail : FnScope ["value", "many"] ["value", "many"] (defScope s_is_tail) := ⟨rfl, rfl, rfl, by decide +kernel, rfl, by decide +kernel, by decide +kernel⟩
theorem same_new {H : Hp} {p : Addr} {o : HO} (h : H p = none) : Same H (upd H p o) := fun b u e => by
  rw [upd_ne (ne_of_none e h)]
  exact e
theorem ok_isTail {f C fi : Addr} {fd fdi : FuncData} (F : Fun K "_is_tail" "_is_tail" s_is_tail f fd) (T : Txt K mg C) (FI : Fun K "is_integer" "is_integer" s_is_integer fi fdi) (bI : Binds K fdi ["value"] []) (mI : mg "is_integer" = some (.ref fi)) : FnOk P w K mg base CX0 2 f fd ["value", "many"] spIsTail := by
  have GI : FnOk P w K mg base CX0 1 fi fdi ["value"] spIsInt := ok_isInt FI T
  obtain ⟨t1, m1⟩ := T.mFact
  refine F.ok scIsTail (fun vs H Q E h => ?_) (fun cdv A outer s H vs Q E hr h => ?_)
  · obtain ⟨t, tl, n, rfl, _⟩ := h
    rfl
  · obtain ⟨t, tl, n, rfl, ht, ok, k⟩ := h
    refine ⟨_, (pss_cons (ps_if (PW.pt (pw_or (pt_not (pt_val (pe_callB call_isi (by rfl) T.isi (by decide +kernel) (pa_cons (pv 0) (pa_cons (pe_bltn (v := .ty "tuple") (by rfl) T.tuple (by decide +kernel) rfl) pa_nil))))) (pw_or1 (pt_cmpR op_notIn_seq (pe_callB call_len_seq (by rfl) T.len (by decide +kernel) (pa_cons (pv 0) pa_nil)) (pe_tup (pa_cons pe_int (pa_cons pe_int pa_nil))) (by rfl))))) (pss_one (ps_ret pe_bl)) pss_nil) (pss_cons (ps_if (pt_not (pt_val (pe_callB call_isi (by rfl) T.isi (by decide +kernel) (pa_cons (pe_ix ix_tup (pv 0) pe_int (fun _ _ => rfl)) (pa_cons (pe_bltn (v := .ty "str") (by rfl) T.str (by decide +kernel) rfl) pa_nil))))) (pss_one (ps_ret pe_bl)) pss_nil) (pss_cons (ps_if (pt_cmpR op_eq (pe_callB call_len_seq (by rfl) T.len (by decide +kernel) (pa_cons (pv 0) pa_nil)) pe_int (nomark _)) (pss_one (ps_ret (pe_cmpR op_eq (pe_ix ix_tup (pv 0) pe_int (fun _ _ => rfl)) pe_str (nomark _)))) pss_nil) (pss_cons (ps_if (pt_not (pt_val (pe_call GI hr rfl mI FI.kp bI .nil pass0 (pa_cons (pe_ix ix_tup (pv 0) pe_int (fun _ _ => rfl)) pa_nil)))) (pss_one (ps_ret pe_bl)) pss_nil) (pss_cons (ps_if (pt_cmpR op_eq (pe_ix ix_tup (pv 0) pe_int (fun _ _ => rfl)) pe_str (nomark _)) (pss_one (ps_ret (pe_and (pe_cmpR op_gt (pv 1) pe_int (nomark _)) (pe_one (pe_chain op_le op_le pe_int (pe_ix ix_tup (pv 0) pe_int (fun _ _ => rfl)) (pe_glob (v := .int 1000) rfl m1 ⟨_, rfl⟩)))))) pss_nil) (pss_one (ps_ret (pe_and (pe_cmpR op_eq (pe_ix ix_tup (pv 0) pe_int (fun _ _ => rfl)) pe_str (nomark _)) (pe_one (pe_chain op_le op_le pe_int (pe_ix ix_tup (pv 0) pe_int (fun _ _ => rfl)) (pv 1))))))))))), ?_⟩
    refine ⟨_, rfl, _, _, _, _, _, rfl, .ty _, .base (.tup ht), kit_ty (r := true) (by decide +kernel), true, rfl, ?_⟩
    refine iteF ?_
    refine ⟨_, rfl, t, _, rfl, .inr (SqT.of ht), by show 2 ≤ sizeLine; decide, fun q hq => ?_⟩
    have hS : Same H (upd H q (.tup [.int 1, .int 2])) := same_new hq
    have ht2 := hS t _ ht
    refine ⟨q, _, rfl, .inr (SqT.of upd_same), rfl, rfl, _, rfl, ?_⟩
    cases tl with
    | fin =>
      refine iteFb (by decide +kernel) ?_
      refine ⟨_, rfl, t, _, _, _, rfl, rfl, SqT.of ht2, atI_nat (j := 0) rfl, _, _, _, _, _, rfl, .ty _, .base (.str _), kit_ty (r := true) (by decide +kernel), true, rfl, iteF ?_⟩
      refine ⟨_, rfl, t, _, rfl, .inr (SqT.of ht2), rfl, _, rfl, iteTb (by decide +kernel) ?_⟩
      refine ⟨_, rfl, t, _, _, _, rfl, rfl, SqT.of ht2, atI_nat (j := 0) rfl, rfl, ?_⟩
      exact k _ hS
    | times b =>
      refine iteFb (by show (!inV (V.int 2) [V.int 1, V.int 2]) = false; decide +kernel) ?_
      refine ⟨_, rfl, t, _, _, _, rfl, rfl, SqT.of ht2, atI_nat (j := 0) rfl, _, _, _, _, _, rfl, .ty _, .base (.str _), kit_ty (r := true) (by decide +kernel), true, rfl, iteF ?_⟩
      refine ⟨_, rfl, t, _, rfl, .inr (SqT.of ht2), rfl, _, rfl, iteFb (by show decide (V.int 2 = V.int 1) = false; decide +kernel) ?_⟩
      refine ⟨_, rfl, t, _, _, _, rfl, rfl, SqT.of ht2, atI_nat (j := 1) rfl, b, rfl, true, rfl, iteF ?_⟩
      refine ⟨_, rfl, t, _, _, _, rfl, rfl, SqT.of ht2, atI_nat (j := 0) rfl, rfl, _, rfl, iteTb (by decide +kernel) ?_⟩
      refine ⟨_, rfl, _, _, rfl, rfl, _, rfl, iteTb (decide_eq_true (by have := ok.1; omega)) ?_⟩
      refine ⟨_, rfl, t, _, _, _, rfl, rfl, SqT.of ht2, atI_nat (j := 1) rfl, _, _, rfl, rfl, _, rfl, iteTb (decide_eq_true ok.2.1) ?_⟩
      refine ⟨_, _, rfl, rfl, ?_⟩
      show Q (.bl (decide (b ≤ 1000))) _
      rw [decide_eq_true ok.2.2]
      exact k _ hS
    | rep m =>
      refine iteFb (by show (!inV (V.int 2) [V.int 1, V.int 2]) = false; decide +kernel) ?_
      refine ⟨_, rfl, t, _, _, _, rfl, rfl, SqT.of ht2, atI_nat (j := 0) rfl, _, _, _, _, _, rfl, .ty _, .base (.str _), kit_ty (r := true) (by decide +kernel), true, rfl, iteF ?_⟩
      refine ⟨_, rfl, t, _, rfl, .inr (SqT.of ht2), rfl, _, rfl, iteFb (by show decide (V.int 2 = V.int 1) = false; decide +kernel) ?_⟩
      refine ⟨_, rfl, t, _, _, _, rfl, rfl, SqT.of ht2, atI_nat (j := 1) rfl, _, rfl, true, rfl, iteF ?_⟩
      refine ⟨_, rfl, t, _, _, _, rfl, rfl, SqT.of ht2, atI_nat (j := 0) rfl, rfl, _, rfl, iteFb (by decide +kernel) ?_⟩
      refine ⟨_, rfl, t, _, _, _, rfl, rfl, SqT.of ht2, atI_nat (j := 0) rfl, rfl, true, by decide +kernel, iteT ?_⟩
      refine ⟨_, rfl, t, _, _, _, rfl, rfl, SqT.of ht2, atI_nat (j := 1) rfl, _, _, rfl, rfl, _, rfl, iteTb (decide_eq_true (by have := ok.1; omega)) ?_⟩
      refine ⟨_, rfl, _, _, rfl, rfl, ?_⟩
      show Q (.bl (decide (((m : Nat) : Int) ≤ (n : Int)))) _
      rw [decide_eq_true (show ((m : Nat) : Int) ≤ (n : Int) by have := ok.2; omega)]
      exact k _ hS
end
end RS
/-! ### comprehensions that only make values -/
namespace L2
open PySem PySem.Spec PyProof.Rows
/-- what the first i turns have made -/
def selTo (sel : Nat → Option V) (i : Nat) : List V := (List.range i).filterMap sel
theorem selTo_succ (sel : Nat → Option V) (i : Nat) : selTo sel (i + 1) = selTo sel i ++ (sel i).toList := by
  unfold selTo
  rw [List.range_succ, List.filterMap_append]
  cases h : sel i <;> simp [h]
theorem selTo_le (sel : Nat → Option V) (i : Nat) : (selTo sel i).length ≤ i := by
  unfold selTo
  have := List.length_filterMap_le sel (List.range i)
  rw [List.length_range] at this
  exact this
theorem selTo_get (ys : List V) : ∀ i, i ≤ ys.length → selTo (fun j : Nat => ys[j]?) i = ys.take i
  | 0, _ => rfl
  | i + 1, h => by
    rw [selTo_succ, selTo_get ys i (by omega), List.take_add_one]
theorem same_app {H1 H : Hp} {D : Addr} {o : HO} (hD : H1 D = none) (S : Same H1 H) : Same H1 (upd H D o) := fun b u e => by
  rw [upd_ne (ne_of_none e hD)]
  exact S b u e
theorem small_line {n : Nat} (h : n ≤ 100000) : n < sizeLine := Nat.lt_of_le_of_lt h (by decide +kernel)
/-- xs[i] in a block, K written -/
theorem pe_ixK {X : Cx} (K : PySem.W.Frag) (hK : X.K = K) {o i : Expr} {to ti : TE} {pos : Pos} (ho : PE X o to) (hi : PE X i ti) (hp : PlainIx i := by exact fun _ _ => rfl) : PE X (.Subscript o i pos) (tOp (rIxL K) to ti) := by
  subst hK
  exact pe_ix ix_list ho hi hp
theorem pe_ixTK {X : Cx} (K : PySem.W.Frag) (hK : X.K = K) {o i : Expr} {to ti : TE} {pos : Pos} (ho : PE X o to) (hi : PE X i ti) (hp : PlainIx i := by exact fun _ _ => rfl) : PE X (.Subscript o i pos) (tOp (rIxT K) to ti) := by
  subst hK
  exact pe_ix ix_tup ho hi hp
section
variable {X : Cx} {e tg : Expr} {te : TE} {p pos : Pos}
theorem pi_listK (K : PySem.W.Frag) (hK : X.K = K) (h : PE X e te) : PI X tg e (iList K te) := by
  subst hK
  exact pi_list h
theorem pi_tupK (K : PySem.W.Frag) (hK : X.K = K) (h : PE X e te) : PI X tg e (iTup K te) := by
  subst hK
  exact pi_tup h
theorem pe_allK (K : PySem.W.Frag) (hK : X.K = K) (hc : X.calm = true) (hg : Gl X "all") (hm : X.mg "all" = none) (ha : PE X e te) (hs : starEach [e] X.env = (false, eval e X.env) :: starEach [] X.env := by rfl) : PE X (.Call (.Name "all" p) [e] [] pos) (tCB (rAll K) (tCons te tNil)) := by
  subst hK
  exact pe_callB (cr_all hc) hg hm (by decide +kernel) (pa_cons ha pa_nil hs) (he := hs)
theorem pe_minK (K : PySem.W.Frag) (hK : X.K = K) (hc : X.calm = true) (hg : Gl X "min") (hm : X.mg "min" = none) (ha : PE X e te) (hs : starEach [e] X.env = (false, eval e X.env) :: starEach [] X.env := by rfl) : PE X (.Call (.Name "min" p) [e] [] pos) (tCB (rMin K) (tCons te tNil)) := by
  subst hK
  exact pe_callB (cr_min hc) hg hm (by decide +kernel) (pa_cons ha pa_nil hs) (he := hs)
end
section
variable {K : PySem.W.Frag} {a : Addr} {xs : List V} {g : TG} {tt : TT} {te : TE} {vs : List Nat} {σ : St} {H1 : Hp} {D : Addr} {Qd : Hp → Prop}
/-- over a list: turn i makes sel i, or nothing -/
theorem lc_sel (sel : Nat → Option V) (hx : SqL K H1 a xs) (hD : H1 D = none) (hn : xs.length ≤ 100000)
    (hs : ∀ (i : Nat) (x : V) (H : Hp) (Q : Option V → Hp → Prop), xs[i]? = some x → Same H1 H → (∀ H', Same H H' → Q (sel i) H') → g x (wipe σ vs) H fun σ2 H2 => wipe σ2 vs = wipe σ vs ∧ tt σ2 H2 fun b H3 =>
      if b = true then te σ2 H3 fun y H4 => Q (some y) H4 else Q none H3)
    (hd : ∀ H, Same H1 H → H D = some (.lst (selTo sel xs.length)) → Qd H) :
    ∃ W : Nat → Nat → Hp → Prop, (∃ m, W 0 m (upd H1 D (.lst []))) ∧ ∀ i m H, W i m H →
      ((Itl K a).stop i H ∧ Qd H) ∨ ((Itl K a).go i H ∧ ∃ Nx : Hp → Prop, (∀ H', Nx H' → ∃ m', m' < m ∧ W (i + 1) m' H') ∧ ∀ x H', (Itl K a).yld i H x H' → g x (wipe σ vs) H' fun σ2 H2 => wipe σ2 vs = wipe σ vs ∧ tt σ2 H2 fun b H3 =>
        if b = true then te σ2 H3 fun y H4 => ∃ acc, H4 D = some (.lst acc) ∧ acc.length < sizeLine ∧ Nx (upd H4 D (.lst (acc ++ [y]))) else Nx H3) := by
  refine lc_list (a := a) (xs := xs) (fun i H => i ≤ xs.length ∧ Same H1 H ∧ H D = some (.lst (selTo sel i))) ⟨Nat.zero_le _, same_app hD (fun _ _ e => e), upd_same⟩ (fun i H _ p => p.2.1.seq hx) (fun i x H hi p => ?_) (fun H p => hd H p.2.1 p.2.2)
  have hlt : i < xs.length := (List.getElem?_eq_some_iff.mp hi).1
  refine hs i x H (fun o H' => match o with | some y => ∃ acc, H' D = some (.lst acc) ∧ acc.length < sizeLine ∧ (i + 1 ≤ xs.length ∧ Same H1 (upd H' D (.lst (acc ++ [y]))) ∧ upd H' D (.lst (acc ++ [y])) D = some (.lst (selTo sel (i + 1)))) | none => i + 1 ≤ xs.length ∧ Same H1 H' ∧ H' D = some (.lst (selTo sel (i + 1)))) hi p.2.1 (fun H' S => ?_)
  have hl := selTo_le sel i
  rw [selTo_succ]
  cases sel i with
  | none => exact ⟨hlt, p.2.1.trans S, by simpa using S _ _ p.2.2⟩
  | some y => exact ⟨_, S _ _ p.2.2, small_line (by omega), hlt, same_app hD (p.2.1.trans S), upd_same⟩
/-- over a range -/
theorem lc_selR {lo : Int} {n : Nat} (sel : Nat → Option V) (hD : H1 D = none) (hn : n ≤ 100000)
    (hs : ∀ (i : Nat) (H : Hp) (Q : Option V → Hp → Prop), i < n → Same H1 H → (∀ H', Same H H' → Q (sel i) H') → g (.int (lo + i)) (wipe σ vs) H fun σ2 H2 => wipe σ2 vs = wipe σ vs ∧ tt σ2 H2 fun b H3 =>
      if b = true then te σ2 H3 fun y H4 => Q (some y) H4 else Q none H3)
    (hd : ∀ H, Same H1 H → H D = some (.lst (selTo sel n)) → Qd H) :
    ∃ W : Nat → Nat → Hp → Prop, (∃ m, W 0 m (upd H1 D (.lst []))) ∧ ∀ i m H, W i m H →
      ((Itr lo n).stop i H ∧ Qd H) ∨ ((Itr lo n).go i H ∧ ∃ Nx : Hp → Prop, (∀ H', Nx H' → ∃ m', m' < m ∧ W (i + 1) m' H') ∧ ∀ x H', (Itr lo n).yld i H x H' → g x (wipe σ vs) H' fun σ2 H2 => wipe σ2 vs = wipe σ vs ∧ tt σ2 H2 fun b H3 =>
        if b = true then te σ2 H3 fun y H4 => ∃ acc, H4 D = some (.lst acc) ∧ acc.length < sizeLine ∧ Nx (upd H4 D (.lst (acc ++ [y]))) else Nx H3) := by
  refine lc_range (fun i H => i ≤ n ∧ Same H1 H ∧ H D = some (.lst (selTo sel i))) ⟨Nat.zero_le _, same_app hD (fun _ _ e => e), upd_same⟩ (fun i H hlt p => ?_) (fun H p => hd H p.2.1 p.2.2)
  refine hs i H (fun o H' => match o with | some y => ∃ acc, H' D = some (.lst acc) ∧ acc.length < sizeLine ∧ (i + 1 ≤ n ∧ Same H1 (upd H' D (.lst (acc ++ [y]))) ∧ upd H' D (.lst (acc ++ [y])) D = some (.lst (selTo sel (i + 1)))) | none => i + 1 ≤ n ∧ Same H1 H' ∧ H' D = some (.lst (selTo sel (i + 1)))) hlt p.2.1 (fun H' S => ?_)
  have hl := selTo_le sel i
  rw [selTo_succ]
  cases sel i with
  | none => exact ⟨hlt, p.2.1.trans S, by simpa using S _ _ p.2.2⟩
  | some y => exact ⟨_, S _ _ p.2.2, small_line (by omega), hlt, same_app hD (p.2.1.trans S), upd_same⟩
theorem yes_ite {te : TE} {F : V → Hp → Prop} {N : Hp → Prop} {σ : St} {H : Hp} : (tYes σ H fun b H3 => if b = true then te σ H3 F else N H3) = te σ H F := by simp [tYes]
/-- over a list, without a test: the values ys -/
theorem lc_map (ys : List V) (hx : SqL K H1 a xs) (hD : H1 D = none) (hl : ys.length = xs.length) (hn : xs.length ≤ 100000)
    (hs : ∀ (i : Nat) (x y : V) (H : Hp) (Q : V → Hp → Prop), xs[i]? = some x → ys[i]? = some y → Same H1 H → (∀ H', Same H H' → Q y H') → g x (wipe σ vs) H fun σ2 H2 => wipe σ2 vs = wipe σ vs ∧ te σ2 H2 Q)
    (hd : ∀ H, Same H1 H → H D = some (.lst ys) → Qd H) :
    ∃ W : Nat → Nat → Hp → Prop, (∃ m, W 0 m (upd H1 D (.lst []))) ∧ ∀ i m H, W i m H →
      ((Itl K a).stop i H ∧ Qd H) ∨ ((Itl K a).go i H ∧ ∃ Nx : Hp → Prop, (∀ H', Nx H' → ∃ m', m' < m ∧ W (i + 1) m' H') ∧ ∀ x H', (Itl K a).yld i H x H' → g x (wipe σ vs) H' fun σ2 H2 => wipe σ2 vs = wipe σ vs ∧ tYes σ2 H2 fun b H3 =>
        if b = true then te σ2 H3 fun y H4 => ∃ acc, H4 D = some (.lst acc) ∧ acc.length < sizeLine ∧ Nx (upd H4 D (.lst (acc ++ [y]))) else Nx H3) := by
  refine lc_sel (fun j : Nat => ys[j]?) hx hD hn (fun i x H Q hi S q => ?_) (fun H S h => hd H S (by rw [← hl, selTo_get ys _ (Nat.le_refl _), List.take_length] at h; exact h))
  have hlt : i < xs.length := (List.getElem?_eq_some_iff.mp hi).1
  have hy : ys[i]? = some ys[i] := List.getElem?_eq_getElem (by omega)
  simp only [yes_ite]
  exact hs i x _ H (fun y H' => Q (some y) H') hi hy S fun H' S' => hy ▸ q H' S'
theorem lc_mapR {lo : Int} {n : Nat} (ys : List V) (hD : H1 D = none) (hl : ys.length = n) (hn : n ≤ 100000)
    (hs : ∀ (i : Nat) (y : V) (H : Hp) (Q : V → Hp → Prop), i < n → ys[i]? = some y → Same H1 H → (∀ H', Same H H' → Q y H') → g (.int (lo + i)) (wipe σ vs) H fun σ2 H2 => wipe σ2 vs = wipe σ vs ∧ te σ2 H2 Q)
    (hd : ∀ H, Same H1 H → H D = some (.lst ys) → Qd H) :
    ∃ W : Nat → Nat → Hp → Prop, (∃ m, W 0 m (upd H1 D (.lst []))) ∧ ∀ i m H, W i m H →
      ((Itr lo n).stop i H ∧ Qd H) ∨ ((Itr lo n).go i H ∧ ∃ Nx : Hp → Prop, (∀ H', Nx H' → ∃ m', m' < m ∧ W (i + 1) m' H') ∧ ∀ x H', (Itr lo n).yld i H x H' → g x (wipe σ vs) H' fun σ2 H2 => wipe σ2 vs = wipe σ vs ∧ tYes σ2 H2 fun b H3 =>
        if b = true then te σ2 H3 fun y H4 => ∃ acc, H4 D = some (.lst acc) ∧ acc.length < sizeLine ∧ Nx (upd H4 D (.lst (acc ++ [y]))) else Nx H3) := by
  refine lc_selR (fun j : Nat => ys[j]?) hD hn (fun i H Q hlt S q => ?_) (fun H S h => hd H S (by rw [← hl, selTo_get ys _ (Nat.le_refl _), List.take_length] at h; exact h))
  have hy : ys[i]? = some ys[i] := List.getElem?_eq_getElem (by omega)
  simp only [yes_ite]
  exact hs i _ H (fun y H' => Q (some y) H') hlt hy S fun H' S' => hy ▸ q H' S'
end
end L2
/-! ### set(xs) of a list of ints -/
namespace L2
open PySem PySem.Spec PyProof.Rows
def eset (w : World) : Obj := { cls := .type "set", dict := none, data := .set #[] 0 (.fresh 0 0 (!w.params.followText "set-order")) }
section
variable {P : Program} {w : World} {A : Around} {E : Value → Shared → Prop} {s : Shared}
set_option maxHeartbeats 4000000 in
theorem set_from {l : Addr} {its : Array Value} (zs : List Int) {Q : Value → Shared → Prop} (calm : A.handled = none) (isl : s.heap.IsList l its) (hz : IntsAre its.toList zs) (few : zs.length + 1 < scanBound)
    (fin : ∀ (g : Heap) (tt n : Nat), SetR w g s.heap.objs.size (fun j => decide (j ∈ zs)) n → n ≤ zs.length → (∀ b o, s.heap.get? b = some o → g.get? b = some o) → Q (.ref s.heap.objs.size) { s with heap := g, toks := tt }) :
    wpAny (model P w) A (call (.type "set") [.ref l]) Q E s := by
  have many : its.size = zs.length := by simpa using IntsAre.length hz
  have k1 := F.called_set
  obtain ⟨cc, tll, mroS⟩ := k1.mro
  have m1 := k1.made; have m2 := k1.sub; have m3 := k1.notType; have m4 := k1.canCreate; have m5 := F.typeCall_set_1 (.ref l)
  refine wpAny_call (codeAny_of_tree (show wpAny _ _ (callAny (.type "set") _) _ _ _ from wpAny_pure ⟨Code.quiet_builtin _ (by decide +kernel), codeAny_builtin F.entry_type_call ?_⟩))
  rw [Around.under_plain (weight_type_call_type "set" [.ref l] []) rfl]
  repeat (any_goals (first | assumption | wp_step))
  refine codeAny_mono (code_set_led1 (.ref l) (E := E) (Q₁ := fun ob t => ob = .ref s.heap.objs.size ∧ t = { s with heap := s.heap.push (eset w) }) ⟨rfl, rfl⟩) fun out t1 told => ?_
  match out, told with
  | .error _, told => exact told
  | .ok .next, told => exact told.elim
  | .ok .brk, told => exact told.elim
  | .ok .cont, told => exact told.elim
  | .ok (.ret ob), ⟨eo, et⟩ =>
    subst eo et
    have atS : (s.heap.push (eset w)).get? s.heap.objs.size = some (eset w) := Heap.get?_push_size _ rfl
    have tyS : Shared.TypeIs { s with heap := s.heap.push (eset w) } (.ref s.heap.objs.size) "set" := ⟨_, atS, rfl⟩
    have n1 := k1.init.lookup; have n2 := k1.init.bind (.ref s.heap.objs.size)
    repeat (any_goals (first | assumption | wp_step))
    refine codeAny_mono (codeAny_call_builtin (R := wants (fun r t => r = .none ∧ ∃ g tt n, t = { s with heap := g, toks := tt } ∧ SetR w g s.heap.objs.size (fun j => decide (j ∈ zs)) n ∧ n ≤ zs.length ∧ ∀ b o, s.heap.get? b = some o → g.get? b = some o) E) k1.init.plain F.entry_set_init (check_set_init_1 tyS ?_)) fun out t2 told => ?_
    · obtain ⟨⟨oc, od, odt, osl⟩, atL, cl, nn, dt⟩ := isl
      simp only at cl dt
      subst cl dt
      have atL1 : (s.heap.push (eset w)).get? l = some { cls := .type "list", dict := od, data := .seq its nn, slots := osl } := Heap.get?_push_of_some _ atL
      have q1 := F.sub_list_set; have q2 := F.sub_list_frozenset
      have q3 : (Value.type "list" == Value.type "dict") = false := by decide
      have isl1 : (s.heap.push (eset w)).IsList l its := ⟨_, atL1, rfl, nn, rfl⟩
      unfold Builtin.«set.__init__» noKeywords Builtin.Frozenset.updateFrom
      generalize eP : pyIter = PP
      wp_walk
      subst eP
      refine wpAny_pyIter_list isl1 (wpAny_bind (wpAny_runValue ?_))
      have lo : l < s.heap.objs.size := Heap.lt_size atL
      have sz : (s.heap.push (eset w)).objs.size = s.heap.objs.size + 1 := Heap.size_push ..
      have calm3 : A.in1.in1.in1.handled = none := by simp [calm]
      have d1 : l ≠ (s.heap.push (eset w)).objs.size := by rw [sz]; exact Nat.ne_of_lt (Nat.lt_succ_of_lt lo)
      have d2 : s.heap.objs.size ∉ [(s.heap.push (eset w)).objs.size, l] := by
        rw [sz]
        simp only [List.mem_cons, List.not_mem_nil, or_false, not_or]
        exact ⟨Nat.ne_of_lt (Nat.lt_succ_self _), (Nat.ne_of_lt lo).symm⟩
      have vals : ∀ (i : Nat) (v : Value), its[i]? = some v → ∃ k t, zs[i]? = some k ∧ v = .int k t := fun i v hv => by
        have lt : i < zs.length := many ▸ (Array.getElem?_eq_some_iff.mp hv).1
        obtain ⟨t, ev⟩ := IntsAre.int_at hz i v (by simpa using hv)
        exact ⟨zs[i], t, List.getElem?_eq_getElem lt, by rw [ev, List.getD_eq_getElem?_getD, List.getElem?_eq_getElem lt] <;> rfl⟩
      refine set_update_ints ((Walks.list calm3 _ l d1 its).toS) s.heap.objs.size d2 zs many few vals (its.size - 0) 0 _ (by omega) (Nat.zero_le _) ⟨⟨_, Heap.get?_push_size _ rfl, rfl, rfl⟩, isl1.push _⟩ ⟨0, Nat.le_refl 0, setR_new_at (Heap.get?_push_of_some _ atS)⟩ fun t n mv hn R => ?_
      obtain ⟨g, gn, dr, tt, os⟩ := t
      obtain rfl : gn = s.gens := mv.gens
      obtain rfl : dr = s.drawn := mv.drawn
      obtain rfl : os = s.os := mv.os
      show wpAny _ _ _ _ _ _
      refine wpAny_pure (show wpAny _ _ (ret Value.none) _ _ _ from wpAny_pure ⟨rfl, g, tt, n, rfl, R, many ▸ hn, fun b o e => ?_⟩)
      have hb := Heap.lt_size e
      refine mv.heap b o ?_ (Heap.get?_push_of_some _ (Heap.get?_push_of_some _ e))
      simp only [List.mem_cons, List.not_mem_nil, or_false, not_or]
      rw [sz]
      exact ⟨Nat.ne_of_lt hb, Nat.ne_of_lt (Nat.lt_succ_of_lt hb)⟩
    · match out, told with
      | .error _, told => exact told
      | .ok .next, told => exact told.elim
      | .ok .brk, told => exact told.elim
      | .ok .cont, told => exact told.elim
      | .ok (.ret _), ⟨e1, g, tt, n, e2, R, hn, kp⟩ =>
        subst e1 e2
        repeat (any_goals (first | assumption | wp_step))
        exact fin _ _ _ R hn kp
end
section
variable {X : Cx}
def rSetOfL (K : PySem.W.Frag) (w : World) : List V → Hp → VK → Prop := fun xs H Q => ∃ (l : Addr) (ns : List Int), xs = [.ref l] ∧ SqL K H l (ns.map V.int) ∧ ns.length ≤ 4000 ∧ ∀ p n, H p = none → n ≤ ns.length → Q (.ref p) (upd H p (SetO w p (fun j => decide (j ∈ ns)) n))
theorem cr_setL (hc : X.calm = true) : CallR X (.type "set") (rSetOfL X.K X.w) := by
  intro pins s σ H xs us Q I r h
  obtain ⟨l, ns, rfl, hs, hn, q⟩ := h
  obtain ⟨its, rv, hl, _⟩ := I.list hs
  rw [Vals.ref1 r]
  refine set_from ns (I.ok.hd hc) hl.isList (by simpa using rv.ints) (by unfold scanBound; omega) fun g tt n R hle kp => ?_
  exact ⟨.ref _, upd H s.heap.objs.size (SetO X.w s.heap.objs.size (fun j => decide (j ∈ ns)) n), I.laid (t' := tt) kp (Nat.le_refl _) (setO_new R), rfl, q _ _ (I.hok.fresh (Nat.le_refl _)) hle⟩
end
end L2
namespace RS
open PySem L2
theorem kGT : ¬ (("_gaps" : Str) = "_tail") := by decide +kernel
theorem kGO : ¬ (("_gaps" : Str) = "_offsets") := by decide +kernel
theorem kTO : ¬ (("_tail" : Str) = "_offsets") := by decide +kernel
def flds (g t o : Addr) : List (Str × V) := putF "_offsets" (.ref o) (putF "_tail" (.ref t) (putF "_gaps" (.ref g) []))
theorem flds_g (g t o : Addr) : (flds g t o).lookup ("_gaps" : Str) = some (.ref g) := by
  unfold flds
  rw [lookup_putF, if_neg kGO, lookup_putF, if_neg kGT, lookup_putF, if_pos rfl]
theorem flds_t (g t o : Addr) : (flds g t o).lookup ("_tail" : Str) = some (.ref t) := by
  unfold flds
  rw [lookup_putF, if_neg kTO, lookup_putF, if_pos rfl]
theorem flds_o (g t o : Addr) : (flds g t o).lookup ("_offsets" : Str) = some (.ref o) := by
  unfold flds
  rw [lookup_putF, if_pos rfl]
theorem flds_no (g t o : Addr) {m : Str} (h1 : ¬ m = "_offsets") (h2 : ¬ m = "_tail") (h3 : ¬ m = "_gaps") : (flds g t o).lookup m = none := by
  unfold flds
  rw [lookup_putF, if_neg h1, lookup_putF, if_neg h2, lookup_putF, if_neg h3]
  rfl
/-- a rule stands at p -/
structure RuleAt (C : Addr) (H : Hp) (p g t o : Addr) (gs : List Int) (tl : Tl) : Prop where
  ob : ∃ dx, H p = some (.ins C dx (flds g t o))
  hg : H g = some (.lst (gs.map V.int))
  ht : H t = some (.tup tl.vs)
  ho : H o = some (.lst ((offs gs).map V.int))
  okG : GapsOk gs
  okT : TlOk gs.length tl
theorem RuleAt.mono {C : Addr} {H H' : Hp} {p g t o : Addr} {gs : List Int} {tl : Tl} (R : RuleAt C H p g t o gs tl) (h : Same H H') : RuleAt C H' p g t o gs tl :=
  ⟨let ⟨dx, e⟩ := R.ob; ⟨dx, h _ _ e⟩, h _ _ R.hg, h _ _ R.ht, h _ _ R.ho, R.okG, R.okT⟩
theorem map_of {xs : List Int} {i : Nat} {x : V} (hx : (xs.map V.int)[i]? = some x) : ∃ g, xs[i]? = some g ∧ x = .int g := by
  rw [List.getElem?_map] at hx
  cases e : xs[i]? with
  | none => rw [e] at hx; cases hx
  | some g => rw [e] at hx; exact ⟨g, rfl, (Option.some.inj hx).symm⟩

section
variable {P : Program} {w : World} {K : PySem.W.Frag} {mg : Str → Option Value} {base : Heap}
/-! ### _sums -/
def spSums : Sp := fun vs H Q _ => ∃ a gs, vs = [.ref a] ∧ H a = some (.lst (gs.map V.int)) ∧ gs.length ≤ 100 ∧ ∀ p H', H p = none → Same H H' → H' p = some (.lst ((offs gs).map V.int)) → Q (.ref p) H'
theorem scSums : FnScope ["gaps", "offsets", "gap"] ["gaps"] (defScope s_sums) := ⟨rfl, rfl, rfl, by decide +kernel, rfl, by decide +kernel, by decide +kernel⟩
theorem ok_sums {f : Addr} {fd : FuncData} (F : Fun K "sums" "sums" s_sums f fd) : FnOk P w K mg base CX0 1 f fd ["gaps"] spSums := by
  refine F.ok scSums (fun vs H Q E h => ?_) (fun cdv A outer s H vs Q E hr h => ?_)
  · obtain ⟨a, gs, rfl, _⟩ := h
    rfl
  · obtain ⟨a, gs, rfl, ha, hn, k⟩ := h
    refine ⟨_, (pss_cons (ps_set (i := 1) scSums.nd rfl (Or.inl rfl) (pe_lst (pa_cons pe_int pa_nil))) (pss_cons (ps_for PassesOwn.never rfl (pi_list (pv 0)) (pg_name (i := 2) scSums.nd rfl (Or.inl rfl)) (pss_one (ps_expr (pe_bm PySem.F.plainAttrs_list PySem.F.slot_list_append PySem.F.type_list_append mt_append (pv 1) (pa_cons (pe_op op_add (pe_ix ix_list (pv 1) (pe_un un_neg pe_int) (fun _ _ => rfl)) (pv 2)) pa_nil))))) (pss_one (ps_ret (pv 1))))), ?_⟩
    refine ⟨by show 1 ≤ sizeLine; decide, fun l hl => ?_⟩
    have S0 : Same H (upd H l (.lst [.int 0])) := same_new hl
    refine ⟨_, rfl, a, rfl, ⟨_, SqL.of (S0 _ _ ha)⟩, for_list (a := a) (xs := gs.map V.int) (fun i σ H' => ∃ v, σ = [some (.ref a), some (.ref l), v] ∧ Same H H' ∧ H' l = some (.lst (((List.range (i + 1)).map (pre gs)).map V.int))) ⟨none, rfl, S0, upd_same⟩ (fun i σ H' _ ⟨v, _, S, _⟩ => SqL.of (S _ _ ha)) ?_ ?_⟩
    · rintro i x σ H' hx ⟨v, rfl, S, hl'⟩
      obtain ⟨g, hg, rfl⟩ := map_of hx
      have hi : i < gs.length := (List.getElem?_eq_some_iff.mp hg).1
      have hz : (((List.range (i + 1)).map (pre gs)).map V.int).length = i + 1 := by simp
      refine ⟨_, rfl, .inl ⟨rfl, _, SqL.of hl'⟩, _, rfl, _, rfl, l, _, _, _, rfl, rfl, SqL.of hl', at_back1 (v := .int (pre gs i)) (by rw [hz]; omega) ?_, _, rfl, _, _, rfl, rfl, l, _, _, rfl, rfl, hl', by rw [hz]; exact small1000 (by omega), ?_⟩
      · rw [hz, List.getElem?_map, List.getElem?_map, List.getElem?_range (by omega)]
        rfl
      · refine ⟨_, rfl, fun b o e => ?_, ?_⟩
        · rw [upd_ne (ne_of_none e hl)]
          exact S b o e
        · rw [upd_same, List.range_succ (n := i + 1), List.map_append, List.map_append]
          show _ = some (HO.lst (_ ++ [V.int (pre gs (i + 1))]))
          rw [pre_succ gs hg]
    · rintro σ H' ⟨v, rfl, S, hl'⟩
      rw [List.length_map] at hl'
      exact ⟨_, rfl, k l H' hl S hl'⟩

/-! ### _power -/
def spPower : Sp := fun vs H Q _ => ∃ (b : Int) (e : Nat), vs = [.int b, .int (e : Int)] ∧ 0 ≤ b ∧ b < 1024 ∧ e ≤ 1024 ∧ Q (.int (b ^ e)) H
theorem scPower : FnScope ["base", "exponent", "result"] ["base", "exponent"] (defScope s_power) := ⟨rfl, rfl, rfl, by decide +kernel, rfl, by decide +kernel, by decide +kernel⟩
theorem pow_small {b : Int} {n : Nat} (h0 : 0 ≤ b) (h1 : b < 1024) (hn : n ≤ 2048) : (b ^ n).natAbs < 2 ^ 20481 := by
  rw [Int.natAbs_pow]
  have h2 : b.natAbs ≤ 2 ^ 10 := by omega
  have h3 : b.natAbs ^ n ≤ (2 ^ 10) ^ n := Nat.pow_le_pow_left h2 n
  rw [← Nat.pow_mul] at h3
  have h4 : 2 ^ (10 * n) < 2 ^ 20481 := Nat.pow_lt_pow_right (by decide) (by omega)
  omega
theorem half_mod (e k : Nat) : e % 2 ^ (k + 1) = e % 2 ^ k + 2 ^ k * (e / 2 ^ k % 2) := by
  rw [Nat.pow_succ, Nat.mod_mul]
theorem half_div (e k : Nat) : e / 2 ^ k / 2 = e / 2 ^ (k + 1) := by
  rw [Nat.pow_succ, Nat.div_div_eq_div_mul]
theorem ok_power {f : Addr} {fd : FuncData} (F : Fun K "_power" "_power" s_power f fd) : FnOk P w K mg base CX0 1 f fd ["base", "exponent"] spPower := by
  refine F.ok scPower (fun vs H Q E h => ?_) (fun cdv A outer s H vs Q E hr h => ?_)
  · obtain ⟨b, e, rfl, _⟩ := h
    rfl
  · obtain ⟨b, e, rfl, b0, b1, he, k⟩ := h
    refine ⟨_, (pss_cons (ps_set (i := 2) scPower.nd rfl (Or.inl rfl) pe_int) (pss_cons (ps_while PassesOwn.never (pt_cmpR op_gt (pv 1) pe_int (nomark _)) (pss_cons (ps_if (pt_cmpR op_eq (pe_op op_odd (pv 1) pe_int) pe_int (nomark _)) (pss_one (ps_set (i := 2) scPower.nd rfl (Or.inl rfl) (pe_op op_mulW (pv 2) (pv 0)))) pss_nil) (pss_cons (ps_set (i := 0) scPower.nd rfl (Or.inl rfl) (pe_op op_mulW (pv 0) (pv 0))) (pss_one (ps_set (i := 1) scPower.nd rfl (Or.inl rfl) (pe_op op_halfN (pv 1) pe_int)))))) (pss_one (ps_ret (pv 2))))), ?_⟩
    refine ⟨fun m σ H' => H' = H ∧ ∃ j, m = e / 2 ^ j ∧ σ = [some (.int (b ^ (2 ^ j))), some (.int ((e / 2 ^ j : Nat) : Int)), some (.int (b ^ (e % 2 ^ j)))], ⟨e, rfl, 0, by simp, by simp [L2.start, Nat.mod_one]; rw [Int.pow_succ, Int.pow_zero, Int.one_mul]⟩, ?_⟩
    rintro m σ H' ⟨rfl, j, rfl, rfl⟩
    refine ⟨_, rfl, _, _, rfl, rfl, _, rfl, ?_⟩
    by_cases hz : 0 < e / 2 ^ j
    · refine iteTb (decide_eq_true (by omega)) ?_
      have hj : 2 ^ j ≤ e := by
        by_cases hlt : e < 2 ^ j
        · rw [Nat.div_eq_of_lt hlt] at hz; omega
        · omega
      have hj1 : (b ^ (2 ^ j)).natAbs < 2 ^ 20481 := pow_small b0 b1 (by omega)
      have hm : e % 2 ^ j < 2 ^ j := Nat.mod_lt _ (Nat.pow_pos (by decide))
      have hr1 : (b ^ (e % 2 ^ j)).natAbs < 2 ^ 20481 := pow_small b0 b1 (by omega)
      refine ⟨fun σ' H2 => H2 = H' ∧ σ' = [some (.int (b ^ (2 ^ (j + 1)))), some (.int ((e / 2 ^ (j + 1) : Nat) : Int)), some (.int (b ^ (e % 2 ^ (j + 1))))], ?_, ?_⟩
      · rintro σ' H2 ⟨rfl, rfl⟩
        refine ⟨e / 2 ^ (j + 1), ?_, rfl, j + 1, rfl, rfl⟩
        rw [← half_div]
        omega
      · have e2 : b ^ 2 ^ j * b ^ 2 ^ j = b ^ 2 ^ (j + 1) := by
          rw [← Int.pow_add, Nat.pow_succ, Nat.mul_two]
        refine ⟨_, rfl, e / 2 ^ j, rfl, rfl, rfl, _, rfl, ?_⟩
        rcases Nat.mod_two_eq_zero_or_one (e / 2 ^ j) with h2 | h2
        · refine iteFb (decide_eq_false (by rw [h2]; intro z; cases z)) ?_
          refine ⟨_, rfl, _, rfl, _, _, rfl, rfl, wide_mul hj1 hj1 (by decide) (by decide) (by decide), ?_⟩
          refine ⟨_, rfl, e / 2 ^ j, rfl, rfl, rfl, ?_⟩
          rw [half_mod, h2, Nat.mul_zero, Nat.add_zero, ← half_div, ← e2]
          rfl
        · refine iteTb (decide_eq_true (by rw [h2]; rfl)) ?_
          refine ⟨_, rfl, _, rfl, _, _, rfl, rfl, wide_mul hr1 hj1 (by decide) (by decide) (by decide), ?_⟩
          refine ⟨_, rfl, _, rfl, _, _, rfl, rfl, wide_mul hj1 hj1 (by decide) (by decide) (by decide), ?_⟩
          refine ⟨_, rfl, e / 2 ^ j, rfl, rfl, rfl, ?_⟩
          rw [half_mod, h2, Nat.mul_one, Int.pow_add, ← half_div, ← e2]
          rfl
    · refine iteFb (decide_eq_false (by omega)) ?_
      have hlt : e % 2 ^ j = e := by
        refine Nat.mod_eq_of_lt ?_
        have := Nat.lt_div_mul_add (a := e) (b := 2 ^ j) (Nat.pow_pos (by decide))
        have h0 : e / 2 ^ j = 0 := Nat.eq_zero_of_not_pos hz
        rw [h0] at this
        omega
      refine ⟨_, rfl, ?_⟩
      rw [hlt]
      exact k
end
end RS
namespace RS
open PySem L2
def Tl.word : Tl → Str
  | .fin => "end"
  | .times _ => "times"
  | .rep _ => "repeat"
theorem Tl.at0 (tl : Tl) : atI tl.vs 0 = some (.str tl.word) := by cases tl <;> exact atI_nat (j := 0) rfl
theorem wEE : decide (V.str "end" = V.str "end") = true := by decide +kernel
theorem wET : decide (V.str "end" = V.str "times") = false := by decide +kernel
theorem wER : decide (V.str "end" = V.str "repeat") = false := by decide +kernel
theorem wTE : decide (V.str "times" = V.str "end") = false := by decide +kernel
theorem wTT : decide (V.str "times" = V.str "times") = true := by decide +kernel
theorem wTR : decide (V.str "times" = V.str "repeat") = false := by decide +kernel
theorem wRE : decide (V.str "repeat" = V.str "end") = false := by decide +kernel
theorem wRT : decide (V.str "repeat" = V.str "times") = false := by decide +kernel
theorem wRR : decide (V.str "repeat" = V.str "repeat") = true := by decide +kernel
def lastG (gs : List Int) : Int := gs.getD (gs.length - 1) 0
def per (gs : List Int) (m : Nat) : Int := pre gs gs.length - pre gs (gs.length - m)
def off (gs : List Int) (tl : Tl) (n : Nat) : Int :=
  if n ≤ gs.length then pre gs n else match tl with
  | .fin => 0
  | .times b => pre gs gs.length + lastG gs * b * (b ^ (n - gs.length) - 1) / (b - 1)
  | .rep m => pre gs (gs.length - m + (n - gs.length) % m) + (((n - gs.length) / m : Nat) + 1) * per gs m
def gapf (gs : List Int) (tl : Tl) (n : Nat) : Int :=
  if n < gs.length then gs.getD n 0 else match tl with
  | .fin => 0
  | .times b => lastG gs * b ^ (n - gs.length + 1)
  | .rep m => gs.getD (gs.length - m + (n - gs.length) % m) 0
/-- an attempt that is answered -/
def AttOk (gs : List Int) (tl : Tl) (n : Nat) : Prop := match tl with
  | .fin => n ≤ gs.length
  | .times _ => n ≤ 1000
  | .rep _ => True
theorem AttOk.low {gs : List Int} {tl : Tl} (okG : GapsOk gs) {n : Nat} (h : n ≤ gs.length) : AttOk gs tl n := by
  cases tl with
  | fin => exact h
  | times b => have := okG.1; show n ≤ 1000; omega
  | rep m => exact True.intro
theorem getD_get {gs : List Int} {k : Nat} (h : k < gs.length) : gs[k]? = some (gs.getD k 0) := by
  rw [List.getD_eq_getElem?_getD, List.getElem?_eq_getElem h]
  rfl
theorem gap_bd {gs : List Int} (ok : GapsOk gs) {k : Nat} (h : k < gs.length) : 1 ≤ gs.getD k 0 ∧ gs.getD k 0 ≤ 1000000000000 := ok.2 _ (List.mem_of_getElem? (getD_get h))
theorem pre_le {gs : List Int} (ok : GapsOk gs) : ∀ k, k ≤ gs.length → (k : Int) ≤ pre gs k ∧ pre gs k ≤ 1000000000000 * k
  | 0, _ => by rw [pre_zero]; omega
  | k + 1, h => by
    have ih := pre_le ok k (by omega)
    have b := gap_bd ok (k := k) (by omega)
    rw [pre_succ gs (getD_get (by omega))]
    omega
theorem pre_mono {gs : List Int} (ok : GapsOk gs) (i : Nat) : ∀ k, i + k ≤ gs.length → pre gs i + k ≤ pre gs (i + k)
  | 0, _ => by simp
  | k + 1, h => by
    have ih := pre_mono ok i k (by omega)
    have b := gap_bd ok (k := i + k) (by omega)
    rw [show i + (k + 1) = (i + k) + 1 by omega, pre_succ gs (getD_get (by omega))]
    omega
theorem per_bd {gs : List Int} (ok : GapsOk gs) {m : Nat} (h1 : 1 ≤ m) (h2 : m ≤ gs.length) : (m : Int) ≤ per gs m ∧ per gs m ≤ 20000000000000 := by
  have a := pre_mono ok (gs.length - m) m (by omega)
  have b := pre_le ok (gs.length - m) (by omega)
  have c := pre_le ok gs.length (Nat.le_refl _)
  have d := ok.1
  rw [show gs.length - m + m = gs.length by omega] at a
  unfold per
  omega

section
variable {P : Program} {w : World} {K : PySem.W.Frag} {mg : Str → Option Value} {base : Heap}
/-! ### a rule's attributes, read -/
section
variable {C p g t o : Addr} {gs : List Int} {tl : Tl} {H : Hp} {σ : L2.St} {i : Nat}
theorem rdG {Q : VK} (T : Txt K mg C) (R : RuleAt C H p g t o gs tl) (hi : σ[i]? = some (some (.ref p))) (q : Q (.ref g) H) : tFld K (tVar i) "_gaps" σ H Q := by
  obtain ⟨dx, h⟩ := R.ob
  exact ⟨_, hi, p, C, dx, _, _, rfl, h, T.cl, T.nG, flds_g _ _ _, q⟩
theorem rdT {Q : VK} (T : Txt K mg C) (R : RuleAt C H p g t o gs tl) (hi : σ[i]? = some (some (.ref p))) (q : Q (.ref t) H) : tFld K (tVar i) "_tail" σ H Q := by
  obtain ⟨dx, h⟩ := R.ob
  exact ⟨_, hi, p, C, dx, _, _, rfl, h, T.cl, T.nT, flds_t _ _ _, q⟩
theorem rdO {Q : VK} (T : Txt K mg C) (R : RuleAt C H p g t o gs tl) (hi : σ[i]? = some (some (.ref p))) (q : Q (.ref o) H) : tFld K (tVar i) "_offsets" σ H Q := by
  obtain ⟨dx, h⟩ := R.ob
  exact ⟨_, hi, p, C, dx, _, _, rfl, h, T.cl, T.nO, flds_o _ _ _, q⟩
theorem rdOx {te : TE} {Q : VK} (T : Txt K mg C) (R : RuleAt C H p g t o gs tl) (hi : σ[i]? = some (some (.ref p))) (q : te σ H fun y H2 => rIxL K (.ref o) y H2 Q) : tOp (rIxL K) (tFld K (tVar i) "_offsets") te σ H Q := by
  dsimp only [tOp]
  exact rdO T R hi q
theorem rdGx {te : TE} {Q : VK} (T : Txt K mg C) (R : RuleAt C H p g t o gs tl) (hi : σ[i]? = some (some (.ref p))) (q : te σ H fun y H2 => rIxL K (.ref g) y H2 Q) : tOp (rIxL K) (tFld K (tVar i) "_gaps") te σ H Q := by
  dsimp only [tOp]
  exact rdG T R hi q
theorem rdIs {s : Str} {Q : Bool → Hp → Prop} (T : Txt K mg C) (R : RuleAt C H p g t o gs tl) (hi : σ[i]? = some (some (.ref p))) (q : Q (decide (V.str tl.word = V.str s)) H) :
    tTest (tOp rEq (tOp (rIxT K) (tFld K (tVar i) "_tail") (tC (.int 0))) (tC (.str s))) σ H Q := by
  dsimp only [tTest, tOp]
  exact rdT T R hi ⟨t, _, _, _, rfl, rfl, SqT.of R.ht, tl.at0, rfl, _, rfl, q⟩
theorem rdNe {s : Str} {Q : Bool → Hp → Prop} (T : Txt K mg C) (R : RuleAt C H p g t o gs tl) (hi : σ[i]? = some (some (.ref p))) (q : Q (!decide (V.str tl.word = V.str s)) H) :
    tTest (tOp rNe (tOp (rIxT K) (tFld K (tVar i) "_tail") (tC (.int 0))) (tC (.str s))) σ H Q := by
  dsimp only [tTest, tOp]
  exact rdT T R hi ⟨t, _, _, _, rfl, rfl, SqT.of R.ht, tl.at0, rfl, _, rfl, q⟩
theorem rdB {b : Int} {Q : VK} (T : Txt K mg C) (R : RuleAt C H p g t o gs (.times b)) (hi : σ[i]? = some (some (.ref p))) (q : Q (.int b) H) : tOp (rIxT K) (tFld K (tVar i) "_tail") (tC (.int 1)) σ H Q :=
  rdT T R hi ⟨t, _, _, _, rfl, rfl, SqT.of R.ht, atI_nat (j := 1) rfl, q⟩
theorem rdN {m : Nat} {Q : VK} (T : Txt K mg C) (R : RuleAt C H p g t o gs (.rep m)) (hi : σ[i]? = some (some (.ref p))) (q : Q (.int (m : Int)) H) : tOp (rIxT K) (tFld K (tVar i) "_tail") (tC (.int 1)) σ H Q :=
  rdT T R hi ⟨t, _, _, _, rfl, rfl, SqT.of R.ht, atI_nat (j := 1) rfl, q⟩
theorem rdLast {Q : VK} (T : Txt K mg C) (R : RuleAt C H p g t o gs tl) (hi : σ[i]? = some (some (.ref p))) (h0 : 0 < gs.length) (q : Q (.int (lastG gs)) H) :
    tOp (rIxL K) (tFld K (tVar i) "_gaps") (tUn (rU fun i => .int (-i)) (tC (.int 1))) σ H Q :=
  rdG T R hi ⟨_, rfl, g, _, _, _, rfl, rfl, SqL.of R.hg, at_back1 (by rw [List.length_map]; exact h0) (by rw [List.length_map, List.getElem?_map, getD_get (by omega)]; rfl), q⟩
theorem rdLastO {Q : VK} (T : Txt K mg C) (R : RuleAt C H p g t o gs tl) (hi : σ[i]? = some (some (.ref p))) (q : Q (.int (pre gs gs.length)) H) :
    tOp (rIxL K) (tFld K (tVar i) "_offsets") (tUn (rU fun i => .int (-i)) (tC (.int 1))) σ H Q :=
  rdO T R hi ⟨_, rfl, o, _, _, _, rfl, rfl, SqL.of R.ho, at_back1 (by rw [List.length_map, offs_len]; omega) (by rw [List.length_map, offs_len, List.getElem?_map, offs_get gs (by omega)]; rfl), q⟩
end
/-! ### Rule.__init__ -/
def spInit (C : Addr) : Sp := fun vs H Q _ => ∃ (p dx a t : Addr) (gs : List Int) (tl : Tl), vs = [.ref p, .ref a, .ref t] ∧ H p = some (.ins C dx []) ∧ H a = some (.lst (gs.map V.int)) ∧ H t = some (.tup tl.vs) ∧ GapsOk gs ∧ TlOk gs.length tl ∧
  ∀ (g o : Addr) (H' : Hp), H g = none → H o = none → (∀ b u, H b = some u → b ≠ p → H' b = some u) → RuleAt C H' p g t o gs tl → Q .non H'
theorem scInit : FnScope ["self", "gaps", "tail"] ["self", "gaps", "tail"] (defScope s_Rule_ddinitdd) := ⟨rfl, rfl, rfl, by decide +kernel, rfl, by decide +kernel, by decide +kernel⟩
theorem ok_init {f C fA fB fS fi : Addr} {fd fdA fdB fdS fdi : FuncData} (F : Fun K "__init__" "Rule.__init__" s_Rule_ddinitdd f fd) (T : Txt K mg C) (FI : Fun K "is_integer" "is_integer" s_is_integer fi fdi) (bI : Binds K fdi ["value"] []) (mI : mg "is_integer" = some (.ref fi))
    (FA : Fun K "are_gaps" "are_gaps" s_are_gaps fA fdA) (bA : Binds K fdA ["value", "most"] []) (mA : mg "are_gaps" = some (.ref fA)) (FB : Fun K "_is_tail" "_is_tail" s_is_tail fB fdB) (bB : Binds K fdB ["value", "many"] []) (mB : mg "_is_tail" = some (.ref fB))
    (FS : Fun K "sums" "sums" s_sums fS fdS) (bS : Binds K fdS ["gaps"] []) (mS : mg "sums" = some (.ref fS)) : FnOk P w K mg base CX0 3 f fd ["self", "gaps", "tail"] (spInit C) := by
  have GA : FnOk P w K mg base CX0 2 fA fdA ["value", "most"] spAreGaps := ok_areGaps FA T FI bI mI
  have GB : FnOk P w K mg base CX0 2 fB fdB ["value", "many"] spIsTail := ok_isTail FB T FI bI mI
  have GS : FnOk P w K mg base CX0 1 fS fdS ["gaps"] spSums := ok_sums FS
  obtain ⟨t1, m1⟩ := T.mMost
  refine F.ok scInit (fun vs H Q E h => ?_) (fun cdv A outer s H vs Q E hr h => ?_)
  · obtain ⟨p, dx, a, t, gs, tl, rfl, _⟩ := h
    rfl
  · obtain ⟨p, dx, a, t, gs, tl, rfl, hp, ha, ht, okG, okT, k⟩ := h
    refine ⟨_, (pss_cons (ps_if (pt_not (pt_val (pe_call GA hr rfl mA FA.kp bA .nil pass0 (pa_cons (pv 1) (pa_cons (pe_glob (v := .int 20) rfl m1 ⟨_, rfl⟩) pa_nil))))) (pss_one ps_never) pss_nil) (pss_cons (ps_if (pt_not (pt_val (pe_call GB hr rfl mB FB.kp bB .nil pass0 (pa_cons (pv 2) (pa_cons (pe_callB call_len_seq (by rfl) T.len (by decide +kernel) (pa_cons (pv 1) pa_nil)) pa_nil))))) (pss_one ps_never) pss_nil) (pss_cons (ps_fld (pv 0) (pe_callTy call_list_of (by rfl) T.list (by decide +kernel) (pa_cons (pv 1) pa_nil)) rfl) (pss_cons (ps_fld (pv 0) (pe_callTy call_tuple_of (by rfl) T.tuple (by decide +kernel) (pa_cons (pv 2) pa_nil)) rfl) (pss_one (ps_fld (pv 0) (pe_call GS (hr.mono (by decide)) rfl mS FS.kp bS .nil pass0 (pa_cons (pe_fld (pv 0) rfl) pa_nil)) rfl)))))), ?_⟩
    refine ⟨_, rfl, a, gs, 20, rfl, ha, okG, okG.1, fun H1 S1 => ⟨true, rfl, iteF ?_⟩⟩
    refine ⟨_, rfl, _, rfl, a, _, rfl, .inl (SqL.of (S1 _ _ ha)), t, tl, gs.length, ?_, S1 _ _ ht, okT, fun H2 S2 => ⟨true, rfl, iteF ?_⟩⟩
    · rw [List.length_map]
      rfl
    have S := S1.trans S2
    refine ⟨_, rfl, a, _, rfl, .inl (SqL.of (S _ _ ha)), fun g hg2 => ?_⟩
    have hg : H g = none := S.free hg2
    have npg : p ≠ g := ne_of_none hp hg
    have ntg : t ≠ g := ne_of_none ht hg
    have nag : a ≠ g := ne_of_none ha hg
    have npt : t ≠ p := ne_of ht hp (by intro z; cases z)
    have npa : a ≠ p := ne_of ha hp (by intro z; cases z)
    refine ⟨_, rfl, p, C, dx, [], rfl, (by rw [upd_ne npg]; exact S _ _ hp), T.cl, T.nG, (by show 0 < 1000; decide), ?_⟩
    refine ⟨_, rfl, t, _, rfl, .inr ⟨SqT.of (by rw [upd_ne npt, upd_ne ntg]; exact S _ _ ht), ?_⟩⟩
    refine ⟨_, rfl, p, C, dx, _, rfl, upd_same, T.cl, T.nT, (by show 1 < 1000; decide), ?_⟩
    have hgl : (putF "_tail" (.ref t) (putF "_gaps" (.ref g) [])).lookup ("_gaps" : Str) = some (V.ref g) := by
      rw [lookup_putF, if_neg kGT, lookup_putF, if_pos rfl]
    refine ⟨_, rfl, p, C, dx, _, _, rfl, upd_same, T.cl, T.nG, hgl, ?_⟩
    refine ⟨g, gs, rfl, (by rw [upd_ne npg.symm, upd_ne npg.symm, upd_same]), (by have := okG.1; omega), fun o H3 ho S3 ho3 => ?_⟩
    have hp3 := S3 _ _ (upd_same (H := upd (upd H2 g (.lst (gs.map V.int))) p (.ins C dx (putF "_gaps" (.ref g) []))) (a := p) (o := .ins C dx (putF "_tail" (.ref t) (putF "_gaps" (.ref g) []))))
    have npo : p ≠ o := ne_of_none (upd_same (H := upd (upd H2 g (.lst (gs.map V.int))) p (.ins C dx (putF "_gaps" (.ref g) []))) (a := p)) ho
    have ngo : g ≠ o := by
      refine ne_of_none (H := upd (upd (upd H2 g (.lst (gs.map V.int))) p (.ins C dx (putF "_gaps" (.ref g) []))) p (.ins C dx (putF "_tail" (.ref t) (putF "_gaps" (.ref g) [])))) (o := .lst (gs.map V.int)) ?_ ho
      rw [upd_ne npg.symm, upd_ne npg.symm, upd_same]
    have hoH : H o = none := by
      refine S.free ?_
      rw [upd_ne npo.symm, upd_ne npo.symm, upd_ne ngo.symm] at ho
      exact ho
    refine ⟨_, rfl, p, C, dx, _, rfl, hp3, T.cl, T.nO, (by show 2 < 1000; decide), ?_⟩
    refine k g o _ hg hoH (fun b u e nb => ?_) ⟨⟨dx, upd_same⟩, ?_, ?_, ?_, okG, okT⟩
    · rw [upd_ne nb]
      refine S3 _ _ ?_
      rw [upd_ne nb, upd_ne nb, upd_ne (ne_of_none e hg)]
      exact S _ _ e
    · rw [upd_ne npg.symm]
      refine S3 _ _ ?_
      rw [upd_ne npg.symm, upd_ne npg.symm, upd_same]
    · rw [upd_ne npt]
      refine S3 _ _ ?_
      rw [upd_ne npt, upd_ne npt, upd_ne ntg]
      exact S _ _ ht
    · rw [upd_ne npo.symm]
      exact ho3

end
end RS
namespace RS
open PySem L2
section
variable {P : Program} {w : World} {K : PySem.W.Frag} {mg : Str → Option Value} {base : Heap}
/-! ### attempts, _first_repeating, period -/
def attV (gs : List Int) : Tl → V
  | .fin => .int ((gs.length : Int) + 1)
  | _ => .non
def spAtt (C : Addr) : Sp := fun vs H Q _ => ∃ (p g t o : Addr) (gs : List Int) (tl : Tl), vs = [.ref p] ∧ RuleAt C H p g t o gs tl ∧ Q (attV gs tl) H
theorem scSelf_attempts : FnScope ["self"] ["self"] (defScope s_Rule_attempts) := ⟨rfl, rfl, rfl, by decide +kernel, rfl, by decide +kernel, by decide +kernel⟩
theorem ok_attempts {f C : Addr} {fd : FuncData} (F : Fun K "attempts" "Rule.attempts" s_Rule_attempts f fd) (T : Txt K mg C) : FnOk P w K mg base CX0 1 f fd ["self"] (spAtt C) := by
  refine F.ok scSelf_attempts (fun vs H Q E h => ?_) (fun cdv A outer s H vs Q E hr h => ?_)
  · obtain ⟨p, g, t, o, gs, tl, rfl, _⟩ := h
    rfl
  · obtain ⟨p, g, t, o, gs, tl, rfl, R, k⟩ := h
    refine ⟨_, (pss_cons (ps_if (pt_cmpR op_eq (pe_ix ix_tup (pe_fld (pv 0) rfl) pe_int (fun _ _ => rfl)) pe_str (nomark _)) (pss_one (ps_ret (pe_callB call_len_seq (by rfl) T.len (by decide +kernel) (pa_cons (pe_fld (pv 0) rfl) pa_nil)))) pss_nil) (pss_one (ps_ret pe_non))), ?_⟩
    refine rdIs T R rfl ?_
    cases tl with
    | fin =>
      refine iteTb wEE ?_
      refine rdO T R rfl ⟨o, _, rfl, .inl (SqL.of R.ho), ?_⟩
      rw [List.length_map, offs_len]
      exact k
    | times b => exact iteFb wTE k
    | rep m => exact iteFb wRE k
def spFR (C : Addr) : Sp := fun vs H Q _ => ∃ (p g t o : Addr) (gs : List Int) (m : Nat), vs = [.ref p] ∧ RuleAt C H p g t o gs (.rep m) ∧ Q (.int ((gs.length - m : Nat) : Int)) H
theorem scSelf_fr : FnScope ["self"] ["self"] (defScope s_Rule_first_repeating) := ⟨rfl, rfl, rfl, by decide +kernel, rfl, by decide +kernel, by decide +kernel⟩
def frV (gs : List Int) : Tl → V
  | .rep m => .int ((gs.length - m : Nat) : Int)
  | _ => .non
def spFRA (C : Addr) : Sp := fun vs H Q _ => ∃ (p g t o : Addr) (gs : List Int) (tl : Tl), vs = [.ref p] ∧ RuleAt C H p g t o gs tl ∧ Q (frV gs tl) H
theorem ok_frA {f C : Addr} {fd : FuncData} (F : Fun K "first_repeating" "Rule.first_repeating" s_Rule_first_repeating f fd) (T : Txt K mg C) : FnOk P w K mg base CX0 1 f fd ["self"] (spFRA C) := by
  refine F.ok scSelf_fr (fun vs H Q E h => ?_) (fun cdv A outer s H vs Q E hr h => ?_)
  · obtain ⟨p, g, t, o, gs, tl, rfl, _⟩ := h
    rfl
  · obtain ⟨p, g, t, o, gs, tl, rfl, R, k⟩ := h
    refine ⟨_, (pss_cons (ps_if (pt_cmpR op_ne (pe_ix ix_tup (pe_fld (pv 0) rfl) pe_int (fun _ _ => rfl)) pe_str (nomark _)) (pss_one (ps_ret pe_non)) pss_nil) (pss_one (ps_ret (pe_op op_sub (pe_callB call_len_seq (by rfl) T.len (by decide +kernel) (pa_cons (pe_fld (pv 0) rfl) pa_nil)) (pe_ix ix_tup (pe_fld (pv 0) rfl) pe_int (fun _ _ => rfl)))))), ?_⟩
    refine rdNe T R rfl ?_
    cases tl with
    | fin => exact iteTb (congrArg not wER) k
    | times b => exact iteTb (congrArg not wTR) k
    | rep m =>
      refine iteFb (congrArg not wRR) ?_
      refine rdG T R rfl ⟨g, _, rfl, .inl (SqL.of R.hg), rdN T R rfl ⟨_, _, rfl, rfl, ?_⟩⟩
      have e : ((((gs.map V.int).length : Nat) : Int) - (m : Int)) = ((gs.length - m : Nat) : Int) := by
        have := R.okT.2
        rw [List.length_map]
        omega
      have k' : Q (.int ((gs.length - m : Nat) : Int)) H := k
      rw [← e] at k'
      exact k'
theorem ok_fr {f C : Addr} {fd : FuncData} (F : Fun K "first_repeating" "Rule.first_repeating" s_Rule_first_repeating f fd) (T : Txt K mg C) : FnOk P w K mg base CX0 1 f fd ["self"] (spFR C) := by
  refine F.ok scSelf_fr (fun vs H Q E h => ?_) (fun cdv A outer s H vs Q E hr h => ?_)
  · obtain ⟨p, g, t, o, gs, tl, rfl, _⟩ := h
    rfl
  · obtain ⟨p, g, t, o, gs, m, rfl, R, k⟩ := h
    refine ⟨_, (pss_cons (ps_if (pt_cmpR op_ne (pe_ix ix_tup (pe_fld (pv 0) rfl) pe_int (fun _ _ => rfl)) pe_str (nomark _)) (pss_one (ps_ret pe_non)) pss_nil) (pss_one (ps_ret (pe_op op_sub (pe_callB call_len_seq (by rfl) T.len (by decide +kernel) (pa_cons (pe_fld (pv 0) rfl) pa_nil)) (pe_ix ix_tup (pe_fld (pv 0) rfl) pe_int (fun _ _ => rfl)))))), ?_⟩
    refine rdNe T R rfl (iteFb (congrArg not wRR) ?_)
    refine rdG T R rfl ⟨g, _, rfl, .inl (SqL.of R.hg), rdN T R rfl ⟨_, _, rfl, rfl, ?_⟩⟩
    have e : ((((gs.map V.int).length : Nat) : Int) - (m : Int)) = ((gs.length - m : Nat) : Int) := by
      have := R.okT.2
      rw [List.length_map]
      omega
    rw [← e] at k
    exact k
end
end RS
namespace RS
open PySem L2
section
variable {P : Program} {w : World} {K : PySem.W.Frag} {mg : Str → Option Value} {base : Heap}
def perV (gs : List Int) : Tl → V
  | .rep m => .int (per gs m)
  | _ => .non
def spPer (C : Addr) : Sp := fun vs H Q _ => ∃ (p g t o : Addr) (gs : List Int) (tl : Tl), vs = [.ref p] ∧ RuleAt C H p g t o gs tl ∧ Q (perV gs tl) H
theorem scSelf_per : FnScope ["self"] ["self"] (defScope s_Rule_period) := ⟨rfl, rfl, rfl, by decide +kernel, rfl, by decide +kernel, by decide +kernel⟩
theorem ok_per {f C fR : Addr} {fd fdR : FuncData} (F : Fun K "period" "Rule.period" s_Rule_period f fd) (T : Txt K mg C) (FR : Fun K "first_repeating" "Rule.first_repeating" s_Rule_first_repeating fR fdR) (bR : Binds K fdR ["self"] []) (mR : Meth K C "first_repeating" fR) : FnOk P w K mg base CX0 2 f fd ["self"] (spPer C) := by
  have GR : FnOk P w K mg base CX0 1 fR fdR ["self"] (spFR C) := ok_fr FR T
  refine F.ok scSelf_per (fun vs H Q E h => ?_) (fun cdv A outer s H vs Q E hr h => ?_)
  · obtain ⟨p, g, t, o, gs, tl, rfl, _⟩ := h
    rfl
  · obtain ⟨p, g, t, o, gs, tl, rfl, R, k⟩ := h
    refine ⟨_, (pss_cons (ps_if (pt_cmpR op_ne (pe_ix ix_tup (pe_fld (pv 0) rfl) pe_int (fun _ _ => rfl)) pe_str (nomark _)) (pss_one (ps_ret pe_non)) pss_nil) (pss_one (ps_ret (pe_op op_sub (pe_ix ix_list (pe_fld (pv 0) rfl) (pe_un un_neg pe_int) (fun _ _ => rfl)) (pe_ix ix_list (pe_fld (pv 0) rfl) (pe_meth0 (pv 0) T.cl mR GR hr bR .nil pass0) (fun _ _ => rfl)))))), ?_⟩
    refine rdNe T R rfl ?_
    cases tl with
    | fin => exact iteTb (congrArg not wER) k
    | times b => exact iteTb (congrArg not wTR) k
    | rep m =>
      refine iteFb (congrArg not wRR) ?_
      refine rdLastO T R rfl (rdO T R rfl ?_)
      obtain ⟨dx, hob⟩ := R.ob
      refine ⟨_, rfl, p, dx, _, rfl, hob, flds_no _ _ _ (by decide +kernel) (by decide +kernel) (by decide +kernel), p, g, t, o, gs, m, rfl, R, ?_⟩
      exact ⟨o, _, _, _, rfl, rfl, SqL.of R.ho, at_map (offs_get gs (by omega)), _, _, rfl, rfl, k⟩
end
end RS
namespace RS
open PySem L2
section
variable {P : Program} {w : World} {K : PySem.W.Frag} {mg : Str → Option Value} {base : Heap}
/-! ### Rule.gaps, tail, least_gap -/
def spGaps (C : Addr) : Sp := fun vs H Q _ => ∃ (p g t o : Addr) (gs : List Int) (tl : Tl), vs = [.ref p] ∧ RuleAt C H p g t o gs tl ∧ ∀ l, H l = none → Q (.ref l) (upd H l (.lst (gs.map V.int)))
theorem scGaps : FnScope ["self"] ["self"] (defScope s_Rule_gaps) := ⟨rfl, rfl, rfl, by decide +kernel, rfl, by decide +kernel, by decide +kernel⟩
theorem ok_gaps {f C : Addr} {fd : FuncData} (F : Fun K "gaps" "Rule.gaps" s_Rule_gaps f fd) (T : Txt K mg C) : FnOk P w K mg base CX0 1 f fd ["self"] (spGaps C) := by
  refine F.ok scGaps (fun vs H Q E h => ?_) (fun cdv A outer s H vs Q E hr h => ?_)
  · obtain ⟨p, g, t, o, gs, tl, rfl, _⟩ := h
    rfl
  · obtain ⟨p, g, t, o, gs, tl, rfl, R, k⟩ := h
    refine ⟨_, (pss_one (ps_ret (pe_callTy call_list_of (by rfl) T.list (by decide +kernel) (pa_cons (pe_fld (pv 0) rfl) pa_nil)))), ?_⟩
    exact rdG T R rfl ⟨g, _, rfl, .inl (SqL.of R.hg), k⟩
def spTail (C : Addr) : Sp := fun vs H Q _ => ∃ (p g t o : Addr) (gs : List Int) (tl : Tl), vs = [.ref p] ∧ RuleAt C H p g t o gs tl ∧ Q (.ref t) H
theorem scTail : FnScope ["self"] ["self"] (defScope s_Rule_tail) := ⟨rfl, rfl, rfl, by decide +kernel, rfl, by decide +kernel, by decide +kernel⟩
theorem ok_tail {f C : Addr} {fd : FuncData} (F : Fun K "tail" "Rule.tail" s_Rule_tail f fd) (T : Txt K mg C) : FnOk P w K mg base CX0 1 f fd ["self"] (spTail C) := by
  refine F.ok scTail (fun vs H Q E h => ?_) (fun cdv A outer s H vs Q E hr h => ?_)
  · obtain ⟨p, g, t, o, gs, tl, rfl, _⟩ := h
    rfl
  · obtain ⟨p, g, t, o, gs, tl, rfl, R, k⟩ := h
    refine ⟨_, (pss_one (ps_ret (pe_fld (pv 0) rfl))), ?_⟩
    exact rdT T R rfl k
end
end RS
namespace RS
open PySem L2
section
variable {P : Program} {w : World} {K : PySem.W.Frag} {mg : Str → Option Value} {base : Heap}
theorem end_cmp {p : Prop} [Decidable p] {A B : Prop} (hp : ¬ p) (h : B) : if decide p = true then A else B := iteFb (decide_eq_false hp) h
/-! ### _check_attempt -/
def spCheck (C : Addr) : Sp := fun vs H Q _ => ∃ (p g t o : Addr) (gs : List Int) (tl : Tl) (n : Nat), vs = [.ref p, .int (n : Int)] ∧ RuleAt C H p g t o gs tl ∧ AttOk gs tl n ∧ Q .non H
theorem scCheck : FnScope ["self", "attempt"] ["self", "attempt"] (defScope s_Rule_check_attempt) := ⟨rfl, rfl, rfl, by decide +kernel, rfl, by decide +kernel, by decide +kernel⟩
theorem ok_check {f C fi : Addr} {fd fdi : FuncData} (F : Fun K "_check_attempt" "Rule._check_attempt" s_Rule_check_attempt f fd) (T : Txt K mg C) (FI : Fun K "is_integer" "is_integer" s_is_integer fi fdi) (bI : Binds K fdi ["value"] []) (mI : mg "is_integer" = some (.ref fi)) :
    FnOk P w K mg base CX0 2 f fd ["self", "attempt"] (spCheck C) := by
  have GI : FnOk P w K mg base CX0 1 fi fdi ["value"] spIsInt := ok_isInt FI T
  obtain ⟨t1, m1⟩ := T.mLast
  refine F.ok scCheck (fun vs H Q E h => ?_) (fun cdv A outer s H vs Q E hr h => ?_)
  · obtain ⟨p, g, t, o, gs, tl, n, rfl, _⟩ := h
    rfl
  · obtain ⟨p, g, t, o, gs, tl, n, rfl, R, ok, k⟩ := h
    refine ⟨_, (pss_cons (ps_if (PW.pt (pw_or (pt_not (pt_val (pe_call GI hr rfl mI FI.kp bI .nil pass0 (pa_cons (pv 1) pa_nil)))) (pw_or1 (pt_cmpR op_lt (pv 1) pe_int (nomark _))))) (pss_one ps_never) pss_nil) (pss_cons (ps_if (PW.pt (pw_and (pt_cmpR op_eq (pe_ix ix_tup (pe_fld (pv 0) rfl) pe_int (fun _ _ => rfl)) pe_str (nomark _)) (pw_and1 (pt_cmpR op_ge (pv 1) (pe_callB call_len_seq (by rfl) T.len (by decide +kernel) (pa_cons (pe_fld (pv 0) rfl) pa_nil)) (nomark _))))) (pss_one ps_never) pss_nil) (pss_one (ps_if (PW.pt (pw_and (pt_cmpR op_eq (pe_ix ix_tup (pe_fld (pv 0) rfl) pe_int (fun _ _ => rfl)) pe_str (nomark _)) (pw_and1 (pt_cmpR op_gt (pv 1) (pe_glob (v := .int 1000) rfl m1 ⟨_, rfl⟩) (nomark _))))) (pss_one ps_never) pss_nil)))), ?_⟩
    refine ⟨_, rfl, _, rfl, true, rfl, iteF ⟨_, rfl, _, _, rfl, rfl, _, rfl, iteFb (decide_eq_false (by omega)) ?_⟩⟩
    refine rdIs T R rfl ?_
    cases tl with
    | fin =>
      refine iteTb wEE ?_
      refine ⟨_, rfl, rdO T R rfl ⟨o, _, rfl, .inl (SqL.of R.ho), _, _, rfl, rfl, _, rfl, iteFb (decide_eq_false ?_) ?_⟩⟩
      · rw [List.length_map, offs_len]
        have : n ≤ gs.length := ok
        omega
      · exact rdIs T R rfl (iteFb wET (iteF k))
    | times b =>
      refine iteFb wTE ?_
      refine iteF ?_
      refine rdIs T R rfl (iteTb wTT ⟨_, rfl, _, _, rfl, rfl, _, rfl, iteFb (decide_eq_false ?_) k⟩)
      have : n ≤ 1000 := ok
      omega
    | rep m =>
      refine iteFb wRE ?_
      refine iteF ?_
      exact rdIs T R rfl (iteFb wRT (iteF k))
/-! ### _offset_of -/
def spOff (C : Addr) : Sp := fun vs H Q _ => ∃ (p g t o : Addr) (gs : List Int) (tl : Tl) (n : Nat), vs = [.ref p, .int (n : Int)] ∧ RuleAt C H p g t o gs tl ∧ AttOk gs tl n ∧ ∀ H', Same H H' → Q (.int (off gs tl n)) H'
theorem scOff : FnScope ["self", "attempt", "further", "factor", "periods", "rest"] ["self", "attempt"] (defScope s_Rule_offset_of) := ⟨rfl, rfl, rfl, by decide +kernel, rfl, by decide +kernel, by decide +kernel⟩
theorem ok_off {f C fR fP fW : Addr} {fd fdR fdP fdW : FuncData} (F : Fun K "_offset_of" "Rule._offset_of" s_Rule_offset_of f fd) (T : Txt K mg C) (FR : Fun K "first_repeating" "Rule.first_repeating" s_Rule_first_repeating fR fdR) (bR : Binds K fdR ["self"] []) (mR : Meth K C "first_repeating" fR)
    (FP : Fun K "period" "Rule.period" s_Rule_period fP fdP) (bP : Binds K fdP ["self"] []) (mP : Meth K C "period" fP) (FW : Fun K "_power" "_power" s_power fW fdW) (bW : Binds K fdW ["base", "exponent"] []) (mW : mg "_power" = some (.ref fW)) :
    FnOk P w K mg base CX0 3 f fd ["self", "attempt"] (spOff C) := by
  have GR : FnOk P w K mg base CX0 1 fR fdR ["self"] (spFR C) := ok_fr FR T
  have GP : FnOk P w K mg base CX0 2 fP fdP ["self"] (spPer C) := ok_per FP T FR bR mR
  have GW : FnOk P w K mg base CX0 1 fW fdW ["base", "exponent"] spPower := ok_power FW
  refine F.ok scOff (fun vs H Q E h => ?_) (fun cdv A outer s H vs Q E hr h => ?_)
  · obtain ⟨p, g, t, o, gs, tl, n, rfl, _⟩ := h
    rfl
  · obtain ⟨p, g, t, o, gs, tl, n, rfl, R, ok, k⟩ := h
    have hr1 := hr.mono (show 1 ≤ 2 by decide)
    refine ⟨_, (pss_cons (ps_if (pt_cmpR op_lt (pv 1) (pe_callB call_len_seq (by rfl) T.len (by decide +kernel) (pa_cons (pe_fld (pv 0) rfl) pa_nil)) (nomark _)) (pss_one (ps_ret (pe_ix ix_list (pe_fld (pv 0) rfl) (pv 1) (fun _ _ => rfl)))) pss_nil) (pss_cons (ps_set (i := 2) scOff.nd rfl (Or.inl rfl) (pe_op op_sub (pv 1) (pe_callB call_len_seq (by rfl) T.len (by decide +kernel) (pa_cons (pe_fld (pv 0) rfl) pa_nil)))) (pss_cons (ps_if (pt_cmpR op_eq (pe_ix ix_tup (pe_fld (pv 0) rfl) pe_int (fun _ _ => rfl)) pe_str (nomark _)) (pss_cons (ps_set (i := 3) scOff.nd rfl (Or.inl rfl) (pe_ix ix_tup (pe_fld (pv 0) rfl) pe_int (fun _ _ => rfl))) (pss_one (ps_ret (pe_op op_add (pe_ix ix_list (pe_fld (pv 0) rfl) (pe_un un_neg pe_int) (fun _ _ => rfl)) (pe_op op_fdiv (pe_op op_mul (pe_op op_mul (pe_ix ix_list (pe_fld (pv 0) rfl) (pe_un un_neg pe_int) (fun _ _ => rfl)) (pv 3)) (pe_op op_sub (pe_call GW hr1 rfl mW FW.kp bW .nil pass0 (pa_cons (pv 3) (pa_cons (pv 2) pa_nil))) pe_int)) (pe_op op_sub (pv 3) pe_int)))))) pss_nil) (pss_cons (ps_asg (pe_callB call_divmod (by rfl) T.divmod (by decide +kernel) (pa_cons (pv 2) (pa_cons (pe_ix ix_tup (pe_fld (pv 0) rfl) pe_int (fun _ _ => rfl)) pa_nil))) (pg_tup rfl (pgs_cons (pg_name (i := 4) scOff.nd rfl (Or.inl rfl)) (pgs_cons (pg_name (i := 5) scOff.nd rfl (Or.inl rfl)) pgs_nil)))) (pss_one (ps_ret (pe_op op_add (pe_ix ix_list (pe_fld (pv 0) rfl) (pe_op op_add (pe_meth0 (pv 0) T.cl mR GR hr1 bR .nil pass0) (pv 5)) (fun _ _ => rfl)) (pe_op op_mul (pe_op op_add (pv 4) pe_int) (pe_meth0 (pv 0) T.cl mP GP hr bP .nil pass0))))))))), ?_⟩
    refine ⟨_, rfl, rdO T R rfl ⟨o, _, rfl, .inl (SqL.of R.ho), _, _, rfl, rfl, _, rfl, ?_⟩⟩
    rw [List.length_map, offs_len]
    by_cases hn : n ≤ gs.length
    · refine iteTb (decide_eq_true (by omega)) ?_
      refine rdOx T R rfl ⟨_, rfl, o, _, _, _, rfl, rfl, SqL.of R.ho, at_map (offs_get gs hn), ?_⟩
      have e : off gs tl n = pre gs n := if_pos hn
      rw [← e]
      exact k H (Same.refl H)
    · refine end_cmp (by omega) ?_
      refine ⟨_, rfl, ?_⟩
      refine rdG T R rfl ⟨g, _, rfl, .inl (SqL.of R.hg), _, _, rfl, rfl, ?_⟩
      have ef : ((n : Int) - (((gs.map V.int).length : Nat) : Int)) = ((n - gs.length : Nat) : Int) := by
        rw [List.length_map]
        omega
      show tSeq _ _ _ (List.set _ 2 (some (V.int ((n : Int) - (((gs.map V.int).length : Nat) : Int))))) H
      rw [ef]
      refine rdIs T R rfl ?_
      cases tl with
      | fin => exact absurd ok hn
      | times b =>
        have hl := R.okT.1
        have hb0 := R.okT.2.1
        have hb1 := R.okT.2.2
        have hn1 : n ≤ 1000 := ok
        have hg := gap_bd R.okG (k := gs.length - 1) (by omega)
        have hg : 1 ≤ lastG gs ∧ lastG gs ≤ 1000000000000 := hg
        have hgb1 : lastG gs * b ≤ 1000000000000 * 1000 := Int.mul_le_mul hg.2 hb1 (by omega) (by omega)
        have hgb0 : 0 ≤ lastG gs * b := Int.mul_nonneg (by omega) (by omega)
        refine iteTb wTT ?_
        refine rdB T R rfl ?_
        refine rdLastO T R rfl ?_
        refine rdLast T R rfl hl ⟨_, rfl, _, _, rfl, rfl, .inl ⟨by omega, by omega⟩, ?_⟩
        refine ⟨_, rfl, _, rfl, b, n - gs.length, rfl, by omega, by omega, by omega, _, _, rfl, rfl, _, _, rfl, rfl, .inl ⟨by omega, by omega⟩, ?_⟩
        refine ⟨_, rfl, _, _, rfl, rfl, _, _, rfl, rfl, ⟨by omega, by omega⟩, _, _, rfl, rfl, ?_⟩
        have e : off gs (.times b) n = pre gs gs.length + lastG gs * b * (b ^ (n - gs.length) - 1) / (b - 1) := if_neg hn
        rw [e] at k
        exact k H (Same.refl H)
      | rep m =>
        have hm0 := R.okT.1
        have hm1 := R.okT.2
        have hp := per_bd R.okG hm0 hm1
        refine iteFb wRT ?_
        refine ⟨_, rfl, ?_⟩
        refine rdN T R rfl ⟨_, _, rfl, ⟨by omega, by have := R.okG.1; omega⟩, fun q hq => ?_⟩
        have S : Same H (upd H q (.tup [.int (((n - gs.length : Nat) : Int) / (m : Int)), .int (((n - gs.length : Nat) : Int) % (m : Int))])) := same_new hq
        have R2 := R.mono S
        refine ⟨q, _, rfl, SqT.of upd_same, rfl, _, _, rfl, _, _, rfl, rfl, ?_⟩
        obtain ⟨dx, hob⟩ := R2.ob
        have e1 : (((n - gs.length : Nat) : Int) % (m : Int)) = (((n - gs.length) % m : Nat) : Int) := rfl
        have e2 : (((n - gs.length : Nat) : Int) / (m : Int)) = (((n - gs.length) / m : Nat) : Int) := rfl
        have hr0 : (n - gs.length) % m < m := Nat.mod_lt _ (by omega)
        have nF : (flds g t o).lookup ("first_repeating" : Str) = none := flds_no _ _ _ (by decide +kernel) (by decide +kernel) (by decide +kernel)
        have nP : (flds g t o).lookup ("period" : Str) = none := flds_no _ _ _ (by decide +kernel) (by decide +kernel) (by decide +kernel)
        refine rdOx T R2 rfl ⟨_, rfl, p, dx, _, rfl, hob, nF, p, g, t, o, gs, m, rfl, R2, _, rfl, _, _, rfl, rfl, ?_⟩
        refine ⟨o, _, _, .int (pre gs (gs.length - m + (n - gs.length) % m)), rfl, rfl, SqL.of R2.ho, ?_, ?_⟩
        · rw [e1, ← Int.natCast_add]
          exact at_map (offs_get gs (by omega))
        · refine ⟨_, rfl, _, _, rfl, rfl, _, rfl, p, dx, _, rfl, hob, nP, p, g, t, o, gs, .rep m, rfl, R2, ?_⟩
          refine ⟨_, _, rfl, rfl, .inr ⟨by omega, by omega⟩, _, _, rfl, rfl, ?_⟩
          have e : off gs (.rep m) n = pre gs (gs.length - m + (n - gs.length) % m) + (((n - gs.length) / m : Nat) + 1) * per gs m := if_neg hn
          rw [e] at k
          exact k _ S
/-! ### offset -/
theorem scOffset : FnScope ["self", "attempt"] ["self", "attempt"] (defScope s_Rule_offset) := ⟨rfl, rfl, rfl, by decide +kernel, rfl, by decide +kernel, by decide +kernel⟩
theorem ok_offset {f C fC fO : Addr} {fd fdC fdO : FuncData} (F : Fun K "offset" "Rule.offset" s_Rule_offset f fd) (T : Txt K mg C) (mC : Meth K C "_check_attempt" fC) (bC : Binds K fdC ["self", "attempt"] []) (mO : Meth K C "_offset_of" fO) (bO : Binds K fdO ["self", "attempt"] [])
    (GC : FnOk P w K mg base CX0 2 fC fdC ["self", "attempt"] (spCheck C)) (GO : FnOk P w K mg base CX0 3 fO fdO ["self", "attempt"] (spOff C)) : FnOk P w K mg base CX0 4 f fd ["self", "attempt"] (spOff C) := by
  refine F.ok scOffset (fun vs H Q E h => ?_) (fun cdv A outer s H vs Q E hr h => ?_)
  · obtain ⟨p, g, t, o, gs, tl, n, rfl, _⟩ := h
    rfl
  · obtain ⟨p, g, t, o, gs, tl, n, rfl, R, ok, k⟩ := h
    refine ⟨_, (pss_cons (ps_expr (pe_meth (pv 0) T.cl mC GC (hr.mono (by decide)) bC .nil pass0 (pa_cons (pv 1) pa_nil))) (pss_one (ps_ret (pe_meth (pv 0) T.cl mO GO hr bO .nil pass0 (pa_cons (pv 1) pa_nil))))), ?_⟩
    obtain ⟨dx, hob⟩ := R.ob
    refine ⟨_, rfl, p, dx, _, rfl, hob, flds_no _ _ _ (by decide +kernel) (by decide +kernel) (by decide +kernel), _, rfl, p, g, t, o, gs, tl, n, rfl, R, ok, ?_⟩
    exact ⟨_, rfl, p, dx, _, rfl, hob, flds_no _ _ _ (by decide +kernel) (by decide +kernel) (by decide +kernel), _, rfl, p, g, t, o, gs, tl, n, rfl, R, ok, k⟩
/-! ### gap -/
def spGap (C : Addr) : Sp := fun vs H Q _ => ∃ (p g t o : Addr) (gs : List Int) (tl : Tl) (n : Nat), vs = [.ref p, .int (n : Int)] ∧ RuleAt C H p g t o gs tl ∧ AttOk gs tl n ∧ (tl = .fin → n < gs.length) ∧ Q (.int (gapf gs tl n)) H
theorem scGap : FnScope ["self", "attempt", "further"] ["self", "attempt"] (defScope s_Rule_gap) := ⟨rfl, rfl, rfl, by decide +kernel, rfl, by decide +kernel, by decide +kernel⟩
theorem ok_gap {f C fC fA fR fW : Addr} {fd fdC fdA fdR fdW : FuncData} (F : Fun K "gap" "Rule.gap" s_Rule_gap f fd) (T : Txt K mg C) (mC : Meth K C "_check_attempt" fC) (bC : Binds K fdC ["self", "attempt"] [])
    (GC : FnOk P w K mg base CX0 2 fC fdC ["self", "attempt"] (spCheck C)) (FA : Fun K "attempts" "Rule.attempts" s_Rule_attempts fA fdA) (bA : Binds K fdA ["self"] []) (mA : Meth K C "attempts" fA)
    (FR : Fun K "first_repeating" "Rule.first_repeating" s_Rule_first_repeating fR fdR) (bR : Binds K fdR ["self"] []) (mR : Meth K C "first_repeating" fR)
    (FW : Fun K "_power" "_power" s_power fW fdW) (bW : Binds K fdW ["base", "exponent"] []) (mW : mg "_power" = some (.ref fW)) : FnOk P w K mg base CX0 3 f fd ["self", "attempt"] (spGap C) := by
  have GA : FnOk P w K mg base CX0 1 fA fdA ["self"] (spAtt C) := ok_attempts FA T
  have GR : FnOk P w K mg base CX0 1 fR fdR ["self"] (spFR C) := ok_fr FR T
  have GW : FnOk P w K mg base CX0 1 fW fdW ["base", "exponent"] spPower := ok_power FW
  refine F.ok scGap (fun vs H Q E h => ?_) (fun cdv A outer s H vs Q E hr h => ?_)
  · obtain ⟨p, g, t, o, gs, tl, n, rfl, _⟩ := h
    rfl
  · obtain ⟨p, g, t, o, gs, tl, n, rfl, R, ok, okf, k⟩ := h
    have hr1 := hr.mono (show 1 ≤ 2 by decide)
    refine ⟨_, (pss_cons (ps_expr (pe_meth (pv 0) T.cl mC GC hr bC .nil pass0 (pa_cons (pv 1) pa_nil))) (pss_cons (ps_if (pt_cmpR op_eq (pe_op op_add (pv 1) pe_int) (pe_meth0 (pv 0) T.cl mA GA hr1 bA .nil pass0) (nomark _)) (pss_one ps_never) pss_nil) (pss_cons (ps_if (pt_cmpR op_lt (pv 1) (pe_callB call_len_seq (by rfl) T.len (by decide +kernel) (pa_cons (pe_fld (pv 0) rfl) pa_nil)) (nomark _)) (pss_one (ps_ret (pe_ix ix_list (pe_fld (pv 0) rfl) (pv 1) (fun _ _ => rfl)))) pss_nil) (pss_cons (ps_set (i := 2) scGap.nd rfl (Or.inl rfl) (pe_op op_sub (pv 1) (pe_callB call_len_seq (by rfl) T.len (by decide +kernel) (pa_cons (pe_fld (pv 0) rfl) pa_nil)))) (pss_cons (ps_if (pt_cmpR op_eq (pe_ix ix_tup (pe_fld (pv 0) rfl) pe_int (fun _ _ => rfl)) pe_str (nomark _)) (pss_one (ps_ret (pe_op op_mul (pe_ix ix_list (pe_fld (pv 0) rfl) (pe_un un_neg pe_int) (fun _ _ => rfl)) (pe_call GW hr1 rfl mW FW.kp bW .nil pass0 (pa_cons (pe_ix ix_tup (pe_fld (pv 0) rfl) pe_int (fun _ _ => rfl)) (pa_cons (pe_op op_add (pv 2) pe_int) pa_nil)))))) pss_nil) (pss_one (ps_ret (pe_ix ix_list (pe_fld (pv 0) rfl) (pe_op op_add (pe_meth0 (pv 0) T.cl mR GR hr1 bR .nil pass0) (pe_op op_mod (pv 2) (pe_ix ix_tup (pe_fld (pv 0) rfl) pe_int (fun _ _ => rfl)))) (fun _ _ => rfl))))))))), ?_⟩
    obtain ⟨dx, hob⟩ := R.ob
    have nF : (flds g t o).lookup ("first_repeating" : Str) = none := flds_no _ _ _ (by decide +kernel) (by decide +kernel) (by decide +kernel)
    have nA : (flds g t o).lookup ("attempts" : Str) = none := flds_no _ _ _ (by decide +kernel) (by decide +kernel) (by decide +kernel)
    refine ⟨_, rfl, p, dx, _, rfl, hob, flds_no _ _ _ (by decide +kernel) (by decide +kernel) (by decide +kernel), _, rfl, p, g, t, o, gs, tl, n, rfl, R, ok, ?_⟩
    refine ⟨_, rfl, _, _, rfl, rfl, _, rfl, p, dx, _, rfl, hob, nA, p, g, t, o, gs, tl, rfl, R, ?_⟩
    have hsc : scal (V.int ((n : Int) + 1)) (attV gs tl) = true := by cases tl <;> rfl
    have hne : decide (V.int ((n : Int) + 1) = attV gs tl) = false := by
      cases tl with
      | fin =>
        have := okf rfl
        refine decide_eq_false fun e => ?_
        have := V.int.inj e
        omega
      | times b => exact decide_eq_false fun e => by cases e
      | rep m => exact decide_eq_false fun e => by cases e
    refine ⟨hsc, _, rfl, iteFb hne ?_⟩
    refine ⟨_, rfl, rdG T R rfl ⟨g, _, rfl, .inl (SqL.of R.hg), _, _, rfl, rfl, _, rfl, ?_⟩⟩
    rw [List.length_map]
    by_cases hn : n < gs.length
    · refine iteTb (decide_eq_true (by omega)) ?_
      refine rdGx T R rfl ⟨_, rfl, g, _, _, _, rfl, rfl, SqL.of R.hg, at_map (getD_get hn), ?_⟩
      have e : gapf gs tl n = gs.getD n 0 := if_pos hn
      rw [← e]
      exact k
    · refine end_cmp (by omega) ?_
      refine ⟨_, rfl, ?_⟩
      refine rdG T R rfl ⟨g, _, rfl, .inl (SqL.of R.hg), _, _, rfl, rfl, ?_⟩
      have ef : ((n : Int) - (((gs.map V.int).length : Nat) : Int)) = ((n - gs.length : Nat) : Int) := by
        rw [List.length_map]
        omega
      show tSeq _ _ _ (List.set _ 2 (some (V.int ((n : Int) - (((gs.map V.int).length : Nat) : Int))))) H
      rw [ef]
      refine rdIs T R rfl ?_
      cases tl with
      | fin => exact absurd (okf rfl) hn
      | times b =>
        have hl := R.okT.1
        have hb0 := R.okT.2.1
        have hb1 := R.okT.2.2
        have hn1 : n ≤ 1000 := ok
        have hg := gap_bd R.okG (k := gs.length - 1) (by omega)
        have hg : 1 ≤ lastG gs ∧ lastG gs ≤ 1000000000000 := hg
        refine iteTb wTT ?_
        refine rdLast T R rfl hl ?_
        refine rdB T R rfl ⟨_, rfl, _, _, rfl, rfl, b, n - gs.length + 1, ?_, by omega, by omega, by omega, _, _, rfl, rfl, .inl ⟨by omega, by omega⟩, ?_⟩
        · rfl
        · have e : gapf gs (.times b) n = lastG gs * b ^ (n - gs.length + 1) := if_neg hn
          rw [e] at k
          exact k
      | rep m =>
        have hm0 := R.okT.1
        have hm1 := R.okT.2
        have hr0 : (n - gs.length) % m < m := Nat.mod_lt _ (by omega)
        refine iteFb wRT ?_
        refine rdGx T R rfl ⟨_, rfl, p, dx, _, rfl, hob, nF, p, g, t, o, gs, m, rfl, R, _, rfl, ?_⟩
        refine rdN T R rfl ⟨_, _, rfl, rfl, by omega, _, _, rfl, rfl, ?_⟩
        refine ⟨g, _, _, .int (gs.getD (gs.length - m + (n - gs.length) % m) 0), rfl, rfl, SqL.of R.hg, ?_, ?_⟩
        · rw [← Int.natCast_emod, ← Int.natCast_add]
          exact at_map (getD_get (by omega))
        · have e : gapf gs (.rep m) n = gs.getD (gs.length - m + (n - gs.length) % m) 0 := if_neg hn
          rw [e] at k
          exact k
end
end RS
namespace RS
open PySem L2
/-! ### the mathematics of offsets and gaps -/
def geo (b : Int) : Nat → Int
  | 0 => 0
  | k + 1 => geo b k + b ^ k
theorem geo_eq (b : Int) : ∀ k, b ^ k - 1 = (b - 1) * geo b k
  | 0 => by simp [geo]
  | k + 1 => by
    rw [geo, Int.mul_add, ← geo_eq b k, Int.pow_succ, Int.sub_mul, Int.one_mul, Int.mul_comm b (b ^ k)]
    omega
theorem geo_div {b : Int} (h : 2 ≤ b) (x : Int) (k : Nat) : x * (b ^ k - 1) / (b - 1) = x * geo b k := by
  rw [geo_eq, ← Int.mul_assoc, Int.mul_comm x (b - 1), Int.mul_assoc]
  exact Int.mul_ediv_cancel_left _ (by omega)
theorem off_low {gs : List Int} {tl : Tl} {n : Nat} (h : n ≤ gs.length) : off gs tl n = pre gs n := if_pos h
theorem off_times {gs : List Int} {b : Int} (h2 : 2 ≤ b) {n : Nat} (h : gs.length ≤ n) : off gs (.times b) n = pre gs gs.length + lastG gs * b * geo b (n - gs.length) := by
  by_cases e : n = gs.length
  · subst e
    rw [off_low (Nat.le_refl _), Nat.sub_self]
    simp [geo]
  · have e1 : off gs (.times b) n = pre gs gs.length + lastG gs * b * (b ^ (n - gs.length) - 1) / (b - 1) := if_neg (by omega)
    rw [e1, geo_div h2]
theorem off_rep {gs : List Int} {m : Nat} (h1 : 1 ≤ m) (h2 : m ≤ gs.length) {n : Nat} (h : gs.length ≤ n) : off gs (.rep m) n = pre gs (gs.length - m + (n - gs.length) % m) + (((n - gs.length) / m : Nat) + 1) * per gs m := by
  by_cases e : n = gs.length
  · subst e
    rw [off_low (Nat.le_refl _), Nat.sub_self, Nat.zero_mod, Nat.zero_div]
    unfold per
    simp
    omega
  · exact if_neg (by omega)
theorem gap_low {gs : List Int} {tl : Tl} {n : Nat} (h : n < gs.length) : gapf gs tl n = gs.getD n 0 := if_pos h
theorem gap_times {gs : List Int} {b : Int} {n : Nat} (h : gs.length ≤ n) : gapf gs (.times b) n = lastG gs * b ^ (n - gs.length + 1) := if_neg (by omega)
theorem gap_rep {gs : List Int} {m n : Nat} (h : gs.length ≤ n) : gapf gs (.rep m) n = gs.getD (gs.length - m + (n - gs.length) % m) 0 := if_neg (by omega)
theorem pre_succD {gs : List Int} {k : Nat} (h : k < gs.length) : pre gs (k + 1) = pre gs k + gs.getD k 0 := pre_succ gs (getD_get h)
/-- the next attempt lies one gap later -/
theorem off_succ {gs : List Int} {tl : Tl} (ok : TlOk gs.length tl) {n : Nat} (hf : tl = .fin → n < gs.length) : off gs tl (n + 1) = off gs tl n + gapf gs tl n := by
  by_cases h : n < gs.length
  · rw [off_low (by omega), off_low (by omega), gap_low h, pre_succD h]
  · cases tl with
    | fin => exact absurd (hf rfl) h
    | times b =>
      have h2 := ok.2.1
      rw [off_times h2 (by omega), off_times h2 (by omega), gap_times (by omega), show n + 1 - gs.length = (n - gs.length) + 1 by omega, geo, Int.mul_add, Int.pow_succ, Int.mul_assoc, Int.mul_assoc, Int.mul_comm (b ^ (n - gs.length)) b]
      omega
    | rep m =>
      have h1 : 1 ≤ m := ok.1
      have h2 : m ≤ gs.length := ok.2
      rw [off_rep h1 h2 (by omega), off_rep h1 h2 (by omega), gap_rep (by omega)]
      generalize hd : n - gs.length = d
      rw [show n + 1 - gs.length = d + 1 by omega]
      have hr : d % m < m := Nat.mod_lt _ (by omega)
      have e0 : m * (d / m) + d % m = d := Nat.div_add_mod d m
      by_cases hl : d % m + 1 < m
      · have e1 : (d + 1) % m = d % m + 1 := by
          rw [← e0, show m * (d / m) + d % m + 1 = (d % m + 1) + m * (d / m) by omega, Nat.add_mul_mod_self_left, Nat.mod_eq_of_lt hl, Nat.add_comm (m * (d / m)), Nat.add_mul_mod_self_left, Nat.mod_mod]
        have e2 : (d + 1) / m = d / m := by
          have h3 := Nat.div_add_mod (d + 1) m
          rw [e1] at h3
          have h4 : m * ((d + 1) / m) = m * (d / m) := by omega
          exact Nat.eq_of_mul_eq_mul_left (by omega) h4
        rw [e1, e2, show gs.length - m + (d % m + 1) = (gs.length - m + d % m) + 1 by omega, pre_succD (by omega)]
        omega
      · have e1 : d + 1 = m * (d / m + 1) := by
          rw [Nat.mul_add, Nat.mul_one]
          omega
        rw [e1, Nat.mul_mod_right, Nat.mul_div_cancel_left _ (by omega), show d % m = m - 1 by omega]
        have e3 : pre gs gs.length = pre gs (gs.length - m + (m - 1)) + gs.getD (gs.length - m + (m - 1)) 0 := by
          rw [← pre_succD (by omega), show gs.length - m + (m - 1) + 1 = gs.length by omega]
        have e4 : per gs m = pre gs gs.length - pre gs (gs.length - m) := rfl
        have e5 : ((d / m + 1 : Nat) + 1 : Int) * per gs m = ((d / m : Nat) + 1 : Int) * per gs m + per gs m := by
          rw [Int.natCast_add, Int.add_mul, Int.natCast_one, Int.one_mul]
        rw [e5, Nat.add_zero]
        omega
theorem gap_grow {gs : List Int} {b : Int} (h0 : 0 < gs.length) {n : Nat} (h : gs.length ≤ n) : gapf gs (.times b) n = gapf gs (.times b) (n - 1) * b := by
  rw [gap_times h]
  by_cases e : n = gs.length
  · subst e
    rw [gap_low (by omega), Nat.sub_self]
    show lastG gs * b ^ 1 = lastG gs * b
    rw [Int.pow_succ, Int.pow_zero, Int.one_mul]
  · rw [gap_times (by omega), show n - gs.length + 1 = (n - 1 - gs.length + 1) + 1 by omega, Int.pow_succ, Int.mul_assoc]
theorem off_later {gs : List Int} {m : Nat} (h1 : 1 ≤ m) (h2 : m ≤ gs.length) (a t : Nat) : off gs (.rep m) (a + gs.length + m * t) = off gs (.rep m) (a + gs.length) + (t : Int) * per gs m := by
  rw [off_rep h1 h2 (by omega), off_rep h1 h2 (by omega), show a + gs.length + m * t - gs.length = a + m * t by omega, show a + gs.length - gs.length = a by omega, Nat.add_mul_mod_self_left, Nat.add_mul_div_left _ _ (by omega), Int.natCast_add]
  rw [Int.add_mul, Int.add_mul, Int.add_mul]
  omega
theorem sum_take_drop (gs : List Int) (k : Nat) : (gs.take k).sum + (gs.drop k).sum = gs.sum := by
  rw [← List.sum_append, List.take_append_drop]
theorem per_sum {gs : List Int} (m : Nat) : (gs.drop (gs.length - m)).sum = per gs m := by
  have h := sum_take_drop gs (gs.length - m)
  have e : pre gs gs.length = gs.sum := by unfold pre; rw [List.take_length]
  unfold per
  rw [e]
  unfold pre
  omega
end RS
namespace RS
open PySem L2
/-! ### the law's own source of numbers -/
/-- all but what stands at a is as it was -/
def Kx (a : Addr) (H H' : Hp) : Prop := ∀ c u, c ≠ a → H c = some u → H' c = some u
theorem Kx.refl (a : Addr) (H : Hp) : Kx a H H := fun _ _ _ h => h
theorem Kx.trans {a : Addr} {H H1 H2 : Hp} (x : Kx a H H1) (y : Kx a H1 H2) : Kx a H H2 := fun c u n h => y c u n (x c u n h)
theorem Kx.of {a : Addr} {H H' : Hp} (x : Same H H') : Kx a H H' := fun c u _ h => x c u h
theorem Kx.upd {a : Addr} {H : Hp} {o : HO} : Kx a H (upd H a o) := fun c u n h => by
  rw [upd_ne n]
  exact h
theorem Kx.free {a : Addr} {H H' : Hp} (x : Kx a H H') {p : Addr} (n : p ≠ a) (h : H' p = none) : H p = none := by
  cases q : H p with
  | none => rfl
  | some o =>
    rw [x p o n q] at h
    cases h
structure Src (H : Hp) (a : Addr) (b : Nat) : Prop where
  ex : ∃ s0 s1 s2 : Int, H a = some (.lst [.int s0, .int s1, .int s2]) ∧ 0 ≤ s0 ∧ 0 ≤ s1 ∧ s1 < 2147483647 ∧ 0 ≤ s2 ∧ s2 ≤ b
theorem Src.mono {H H' : Hp} {a : Addr} {b : Nat} (h : Src H a b) (e : Same H H') : Src H' a b := by
  obtain ⟨s0, s1, s2, h1, h2⟩ := h.ex
  exact ⟨s0, s1, s2, e _ _ h1, h2⟩
theorem Src.le {H : Hp} {a : Addr} {b c : Nat} (h : Src H a b) (e : b ≤ c) : Src H a c := by
  obtain ⟨s0, s1, s2, h1, h2, h3, h4, h5, h6⟩ := h.ex
  exact ⟨s0, s1, s2, h1, h2, h3, h4, h5, by omega⟩
theorem Src.new {H : Hp} {a : Addr} {b : Nat} (h : Src H a b) {p : Addr} (hp : H p = none) : a ≠ p := by
  obtain ⟨s0, s1, s2, h1, _⟩ := h.ex
  exact ne_of_none h1 hp
section
variable {P : Program} {w : World} {K : PySem.W.Frag} {mg : Str → Option Value} {base : Heap}
def spSrcOf : Sp := fun vs H Q _ => ∃ c : Int, vs = [.int c] ∧ ∀ a H', H a = none → Same H H' → Src H' a 0 → Q (.ref a) H'
theorem scSrcOf : FnScope ["_law_cell"] ["_law_cell"] (defScope s_law_source_of) := ⟨rfl, rfl, rfl, by decide +kernel, rfl, by decide +kernel, by decide +kernel⟩
theorem ok_srcOf {f C : Addr} {fd : FuncData} (F : Fun K "_law_source_of" "_law_source_of" s_law_source_of f fd) (T : Txt K mg C) : FnOk P w K mg base CX0 1 f fd ["_law_cell"] spSrcOf := by
  refine F.ok scSrcOf (fun vs H Q E h => ?_) (fun cdv A outer s H vs Q E hr h => ?_)
  · obtain ⟨c, rfl, _⟩ := h
    rfl
  · obtain ⟨c, rfl, k⟩ := h
    refine ⟨_, (pss_one (ps_ret (pe_lst (pa_cons (pe_op op_mul (pv 0) (pe_callTy call_int1 (by rfl) T.int (by decide +kernel) (pa_cons (pe_cmpR op_ge (pv 0) (pe_op op_pow pe_int pe_int) (nomark _)) pa_nil))) (pa_cons (pe_op op_mod (pe_callTy call_int1 (by rfl) T.int (by decide +kernel) (pa_cons (pv 0) pa_nil)) pe_int) (pa_cons pe_int pa_nil)))))), ?_⟩
    refine ⟨_, rfl, _, rfl, _, _, rfl, rfl, ⟨by decide, by decide, by decide⟩, _, _, rfl, rfl, .inr ⟨_, rfl, ?_⟩⟩
    refine ⟨_, _, rfl, rfl, .inr ?_, _, rfl, .inl ⟨_, rfl, _, _, rfl, rfl, (by show (0 : Int) < 2147483647; decide), (by show 3 ≤ sizeLine; decide), fun a ha => ?_⟩⟩
    · by_cases hc : (10 : Int) ^ (18 : Int).toNat ≤ c
      · rw [decide_eq_true hc]; decide
      · rw [decide_eq_false hc]; decide
    · refine k a _ ha (same_new ha) ⟨_, _, _, upd_same, ?_, Int.emod_nonneg _ (by decide), Int.emod_lt_of_pos _ (by decide), by decide, by decide⟩
      by_cases hc : (10 : Int) ^ (18 : Int).toNat ≤ c
      · have e : (10 : Int) ^ (18 : Int).toNat = 1000000000000000000 := by decide
        rw [decide_eq_true hc]
        show 0 ≤ c * 1
        omega
      · rw [decide_eq_false hc]
        show 0 ≤ c * 0
        omega
def spNext : Sp := fun vs H Q _ => ∃ (a : Addr) (m : Int) (b : Nat), vs = [.ref a, .int m] ∧ Src H a b ∧ b ≤ 100000 ∧ 1 ≤ m ∧ m < 2 ^ 200 ∧ ∀ r H', 0 ≤ r → r < m → Kx a H H' → Src H' a (b + 1) → Q (.int r) H'
theorem scNext : FnScope ["_law_source", "_law_bound", "_law_result", "_law_prime", "_law_mixed"] ["_law_source", "_law_bound"] (defScope s_law_draw) := ⟨rfl, rfl, rfl, by decide +kernel, rfl, by decide +kernel, by decide +kernel⟩
theorem prime_at {s : Int} (h : 0 ≤ s) : ∃ pr : Int, atI [V.int 2147483647, V.int 2147483629, V.int 2147483587, V.int 2147483579, V.int 2147483563, V.int 2147483549, V.int 2147483543] (s % 7) = some (.int pr) ∧ 1 ≤ pr ∧ pr ≤ 2147483647 := by
  have h1 : s % 7 = 0 ∨ s % 7 = 1 ∨ s % 7 = 2 ∨ s % 7 = 3 ∨ s % 7 = 4 ∨ s % 7 = 5 ∨ s % 7 = 6 := by omega
  rcases h1 with h1 | h1 | h1 | h1 | h1 | h1 | h1 <;> rw [h1] <;> exact ⟨_, rfl, by decide, by decide⟩
theorem ok_next {f C : Addr} {fd : FuncData} (F : Fun K "_law_draw" "_law_draw" s_law_draw f fd) (T : Txt K mg C) : FnOk P w K mg base CX0 1 f fd ["_law_source", "_law_bound"] spNext := by
  refine F.ok scNext (fun vs H Q E h => ?_) (fun cdv A outer s H vs Q E hr h => ?_)
  · obtain ⟨a, m, b, rfl, _⟩ := h
    rfl
  · obtain ⟨a, m, b, rfl, S, hb, hm1, hm2, k⟩ := h
    obtain ⟨s0, s1, s2, ha, h0, h1, h1', h2, h2'⟩ := S.ex
    refine ⟨_, (pss_cons (ps_if (pt_cmpR op_gt (pe_ix ix_list (pv 0) pe_int (fun _ _ => rfl)) pe_int (nomark _)) (pss_cons (ps_set (i := 2) scNext.nd rfl (Or.inl rfl) (pe_op op_mod (pe_callTy call_int1 (by rfl) T.int (by decide +kernel) (pa_cons (pe_ix ix_list (pv 0) pe_int (fun _ _ => rfl)) pa_nil)) (pv 1))) (pss_cons (ps_asg (pe_op op_fdivW (pe_ix ix_list (pv 0) pe_int (fun _ _ => rfl)) (pv 1)) (pg_sub (pv 0) pe_int set_list)) (pss_one (ps_ret (pv 2))))) pss_nil) (pss_cons (ps_asg (pe_op op_add (pe_ix ix_list (pv 0) pe_int (fun _ _ => rfl)) pe_int) (pg_sub (pv 0) pe_int set_list)) (pss_cons (ps_set (i := 3) scNext.nd rfl (Or.inl rfl) (pe_ix ix_list (pe_lst (pa_cons pe_int (pa_cons pe_int (pa_cons pe_int (pa_cons pe_int (pa_cons pe_int (pa_cons pe_int (pa_cons pe_int pa_nil)))))))) (pe_op op_mod (pe_callTy call_int1 (by rfl) T.int (by decide +kernel) (pa_cons (pe_ix ix_list (pv 0) pe_int (fun _ _ => rfl)) pa_nil)) pe_int) (fun _ _ => rfl))) (pss_cons (ps_set (i := 4) scNext.nd rfl (Or.inl rfl) (pe_op op_mod (pe_callTy call_int1 (by rfl) T.int (by decide +kernel) (pa_cons (pe_op op_pow (pe_op op_add (pe_op op_add (pe_ix ix_list (pv 0) pe_int (fun _ _ => rfl)) (pe_op op_mul pe_int (pe_ix ix_list (pv 0) pe_int (fun _ _ => rfl)))) pe_int) pe_int) pa_nil)) (pv 3))) (pss_cons (ps_set (i := 4) scNext.nd rfl (Or.inl rfl) (pe_op op_mod (pe_callTy call_int1 (by rfl) T.int (by decide +kernel) (pa_cons (pe_op op_mul (pe_op op_add (pv 4) (pe_ix ix_list (pv 0) pe_int (fun _ _ => rfl))) (pe_op op_add (pe_op op_fdiv (pv 4) pe_int) pe_int)) pa_nil)) (pv 3))) (pss_one (ps_ret (pe_op op_mod (pe_callTy call_int1 (by rfl) T.int (by decide +kernel) (pa_cons (pe_op op_fdiv (pv 4) pe_int) pa_nil)) (pv 1))))))))), ?_⟩
    refine ⟨_, rfl, a, _, _, _, rfl, rfl, SqL.of ha, atI_nat (j := 0) rfl, _, _, rfl, rfl, _, rfl, ?_⟩
    by_cases hz : 0 < s0
    · refine iteTb (decide_eq_true hz) ?_
      refine ⟨_, rfl, a, _, _, _, rfl, rfl, SqL.of ha, atI_nat (j := 0) rfl, .inl ⟨_, rfl, _, rfl, _, _, rfl, rfl, by omega, ?_⟩⟩
      refine ⟨_, rfl, a, _, _, _, rfl, rfl, SqL.of ha, atI_nat (j := 0) rfl, _, rfl, _, _, rfl, rfl, wide_div (by omega) (b := 200) (by omega) (by decide) (by decide), _, rfl, a, _, _, 0, rfl, rfl, ha, rfl, ?_⟩
      refine ⟨_, rfl, k _ _ (Int.emod_nonneg _ (by omega)) (Int.emod_lt_of_pos _ (by omega)) Kx.upd ⟨s0 / m, s1, s2, upd_same, Int.ediv_nonneg h0 (by omega), h1, h1', h2, by omega⟩⟩
    · refine iteFb (decide_eq_false hz) ?_
      refine ⟨_, rfl, a, _, _, _, rfl, rfl, SqL.of ha, atI_nat (j := 2) rfl, _, _, rfl, rfl, _, rfl, a, _, _, 2, rfl, rfl, ha, rfl, ?_⟩
      refine ⟨by show 7 ≤ sizeLine; decide, fun l hl => ?_⟩
      have hal : (upd (upd H a (.lst [.int s0, .int s1, .int (s2 + 1)])) l (.lst [.int 2147483647, .int 2147483629, .int 2147483587, .int 2147483579, .int 2147483563, .int 2147483549, .int 2147483543])) a = some (.lst [.int s0, .int s1, .int (s2 + 1)]) := by
        rw [upd_ne (ne_of_none upd_same hl)]
        exact upd_same
      obtain ⟨pr, hpr, hp1, hp2⟩ := prime_at (s := s2 + 1) (by omega)
      refine ⟨_, rfl, a, _, _, _, rfl, rfl, SqL.of hal, atI_nat (j := 2) rfl, .inl ⟨_, rfl, _, _, rfl, rfl, (by show (0 : Int) < 7; decide), l, _, _, _, rfl, rfl, SqL.of upd_same, hpr, ?_⟩⟩
      refine ⟨_, rfl, a, _, _, _, rfl, rfl, SqL.of hal, atI_nat (j := 1) rfl, _, rfl, a, _, _, _, rfl, rfl, SqL.of hal, atI_nat (j := 2) rfl, _, _, rfl, rfl, .inl ⟨by decide, by decide⟩, _, _, rfl, rfl, _, _, rfl, rfl, _, _, rfl, rfl, ⟨by decide, by decide, by omega⟩, .inl ⟨_, rfl, _, rfl, _, _, rfl, rfl, by omega, ?_⟩⟩
      generalize hf : (s1 + 7919 * (s2 + 1) + 1) ^ (5 : Int).toNat % pr = fg
      have f0 : 0 ≤ fg := by rw [← hf]; exact Int.emod_nonneg _ (by omega)
      have f1 : fg < pr := by rw [← hf]; exact Int.emod_lt_of_pos _ (by omega)
      refine ⟨_, rfl, _, rfl, a, _, _, _, rfl, rfl, SqL.of hal, atI_nat (j := 2) rfl, _, _, rfl, rfl, _, rfl, _, _, rfl, rfl, ⟨by decide, by decide⟩, _, _, rfl, rfl, _, _, rfl, rfl, .inl ⟨by omega, by omega⟩, .inl ⟨_, rfl, _, rfl, _, _, rfl, rfl, by omega, ?_⟩⟩
      refine ⟨_, rfl, _, _, rfl, rfl, ⟨by decide, by decide⟩, .inl ⟨_, rfl, _, rfl, _, _, rfl, rfl, by omega, ?_⟩⟩
      refine k _ _ (Int.emod_nonneg _ (by omega)) (Int.emod_lt_of_pos _ (by omega)) (fun c u n e => ?_) ⟨s0, s1, s2 + 1, hal, h0, h1, h1', by omega, by omega⟩
      have e2 : (upd H a (.lst [.int s0, .int s1, .int (s2 + 1)])) c = some u := by
        rw [upd_ne n]
        exact e
      rw [upd_ne (ne_of_none e2 hl)]
      exact e2
def spOne : Sp := fun vs H Q _ => ∃ (a q : Addr) (xs : List V) (b : Nat), vs = [.ref a, .ref q] ∧ Src H a b ∧ b ≤ 100000 ∧ q ≠ a ∧ H q = some (.lst xs) ∧ 0 < xs.length ∧ xs.length < 1000 ∧ ∀ x H', x ∈ xs → Kx a H H' → Src H' a (b + 1) → Q x H'
theorem scOne : FnScope ["_law_source", "_law_options"] ["_law_source", "_law_options"] (defScope s_law_choice) := ⟨rfl, rfl, rfl, by decide +kernel, rfl, by decide +kernel, by decide +kernel⟩
theorem ok_one {f C fN : Addr} {fd fdN : FuncData} (F : Fun K "_law_choice" "_law_choice" s_law_choice f fd) (T : Txt K mg C) (FN : Fun K "_law_draw" "_law_draw" s_law_draw fN fdN) (bN : Binds K fdN ["_law_source", "_law_bound"] []) (mN : mg "_law_draw" = some (.ref fN)) :
    FnOk P w K mg base CX0 2 f fd ["_law_source", "_law_options"] spOne := by
  have GN : FnOk P w K mg base CX0 1 fN fdN ["_law_source", "_law_bound"] spNext := ok_next FN T
  refine F.ok scOne (fun vs H Q E h => ?_) (fun cdv A outer s H vs Q E hr h => ?_)
  · obtain ⟨a, q, xs, b, rfl, _⟩ := h
    rfl
  · obtain ⟨a, q, xs, b, rfl, S, hb, hne, hq, hx0, hx1, k⟩ := h
    refine ⟨_, (pss_one (ps_ret (pe_ix ix_list (pv 1) (pe_call GN hr rfl mN FN.kp bN .nil pass0 (pa_cons (pv 0) (pa_cons (pe_callB call_len_seq (by rfl) T.len (by decide +kernel) (pa_cons (pv 1) pa_nil)) pa_nil))) (fun _ _ => rfl)))), ?_⟩
    refine ⟨_, rfl, _, rfl, _, rfl, q, _, rfl, .inl (SqL.of hq), a, (xs.length : Int), b, rfl, S, hb, by omega, by omega, fun r H' r0 r1 kx S' => ?_⟩
    obtain ⟨j, rfl⟩ : ∃ j : Nat, r = (j : Int) := ⟨r.toNat, by omega⟩
    have hj : j < xs.length := by omega
    exact ⟨q, _, _, _, rfl, rfl, SqL.of (kx _ _ hne hq), atI_nat (List.getElem?_eq_getElem hj), k _ _ (List.getElem_mem hj) kx S'⟩
def spCell (K : PySem.W.Frag) : Sp := fun vs H Q _ => ∃ (a : Addr) (ns : List Int), vs = [.ref a, .int 0] ∧ SqL K H a (ns.map V.int) ∧ Q (.int (ns.getD 0 0)) H
theorem scCell : FnScope ["_law_script", "_law_index"] ["_law_script", "_law_index"] (defScope s_law_cell_at) := ⟨rfl, rfl, rfl, by decide +kernel, rfl, by decide +kernel, by decide +kernel⟩
theorem ok_cell {f C : Addr} {fd : FuncData} (F : Fun K "_law_cell_at" "_law_cell_at" s_law_cell_at f fd) (T : Txt K mg C) : FnOk P w K mg base CX0 1 f fd ["_law_script", "_law_index"] (spCell K) := by
  refine F.ok scCell (fun vs H Q E h => ?_) (fun cdv A outer s H vs Q E hr h => ?_)
  · obtain ⟨a, ns, rfl, _⟩ := h
    rfl
  · obtain ⟨a, ns, rfl, hs, k⟩ := h
    refine ⟨_, (pss_cons (ps_if (pt_cmpR op_lt (pv 1) (pe_callB call_len_seq (by rfl) T.len (by decide +kernel) (pa_cons (pv 0) pa_nil)) (nomark _)) (pss_one (ps_ret (pe_ix ix_list (pv 0) (pv 1) (fun _ _ => rfl)))) pss_nil) (pss_one (ps_ret pe_int))), ?_⟩
    refine ⟨_, rfl, _, rfl, a, _, rfl, .inl hs, _, _, rfl, rfl, _, rfl, ?_⟩
    rw [List.length_map]
    cases ns with
    | nil => exact iteFb (by decide) k
    | cons n r =>
      refine iteTb (decide_eq_true (by rw [List.length_cons]; omega)) ?_
      exact ⟨_, rfl, _, rfl, a, _, _, _, rfl, rfl, hs, atI_nat (j := 0) rfl, k⟩
end
end RS
namespace RS
open PySem L2
theorem ints_dp {K : PySem.W.Frag} {H : Hp} : ∀ ns : List Int, DpAll K H (ns.map V.int) (ns.map PyData.int)
  | [] => .nil
  | n :: r => .cons (.int n) (ints_dp r)
theorem list_dp {K : PySem.W.Frag} {H : Hp} {a : Addr} {ns : List Int} (h : SqL K H a (ns.map V.int)) : Dp K H (.ref a) (.list (ns.map PyData.int)) := .lst h (ints_dp ns)
theorem list_eqv (ns ms : List Int) : PyData.eqv (.list (ns.map PyData.int)) (.list (ms.map PyData.int)) = decide (ns = ms) := PySem.W.ked_eqvAll ns ms
end RS
namespace RS
open PySem L2
section
variable {P : Program} {w : World} {K : PySem.W.Frag} {mg : Str → Option Value} {base : Heap}
/-! ### the law's tail -/
def WordsOk (ws : List Str) : Prop := 0 < ws.length ∧ ws.length < 1000 ∧ ∀ x ∈ ws, x = "end" ∨ x = "times" ∨ x = "repeat"
def spTl : Sp := fun vs H Q _ => ∃ (a gl wl : Addr) (gs : List Int) (ws : List Str) (b : Nat), vs = [.ref a, .ref gl, .ref wl] ∧ Src H a b ∧ b ≤ 50000 ∧ gl ≠ a ∧ wl ≠ a ∧ H gl = some (.lst (gs.map V.int)) ∧ GapsOk gs ∧ H wl = some (.lst (ws.map V.str)) ∧ WordsOk ws ∧
  ∀ (t : Addr) (tl : Tl) (H' : Hp), t ≠ a → H' t = some (.tup tl.vs) → TlOk gs.length tl → (tl.word ∈ ws ∨ (tl = .fin ∧ gs = [])) → Kx a H H' → Src H' a (b + 10) → Q (.ref t) H'
theorem scTl : FnScope ["_law_source", "_law_gaps", "_law_words", "_law_word"] ["_law_source", "_law_gaps", "_law_words"] (defScope s_law_tail) := ⟨rfl, rfl, rfl, by decide +kernel, rfl, by decide +kernel, by decide +kernel⟩
theorem ok_tl {f C fN fO : Addr} {fd fdN fdO : FuncData} (F : Fun K "_law_tail" "_law_tail" s_law_tail f fd) (T : Txt K mg C)
    (GN : FnOk P w K mg base CX0 1 fN fdN ["_law_source", "_law_bound"] spNext) (bN : Binds K fdN ["_law_source", "_law_bound"] []) (mN : mg "_law_draw" = some (.ref fN)) (kN : PySem.W.keepIn K (.ref fN) = true)
    (GO : FnOk P w K mg base CX0 2 fO fdO ["_law_source", "_law_options"] spOne) (bO : Binds K fdO ["_law_source", "_law_options"] []) (mO : mg "_law_choice" = some (.ref fO)) (kO : PySem.W.keepIn K (.ref fO) = true) : FnOk P w K mg base CX0 3 f fd ["_law_source", "_law_gaps", "_law_words"] spTl := by
  refine F.ok scTl (fun vs H Q E h => ?_) (fun cdv A outer s H vs Q E hr h => ?_)
  · obtain ⟨a, gl, wl, gs, ws, b, rfl, _⟩ := h
    rfl
  · obtain ⟨a, gl, wl, gs, ws, b, rfl, S, hb, ngl, nwl, hg, okG, hw, okW, k⟩ := h
    have hr1 := hr.mono (show 1 ≤ 2 by decide)
    refine ⟨_, (pss_cons (ps_set (i := 3) scTl.nd rfl (Or.inl rfl) (pe_call GO hr rfl mO kO bO .nil pass0 (pa_cons (pv 0) (pa_cons (pv 2) pa_nil)))) (pss_cons (ps_if (PW.pt (pw_or (pt_cmpR (op_eqD hr.units) (pv 1) (pe_lst pa_nil) (nomark _)) (pw_or1 (pt_cmpR op_eq (pv 3) pe_str (nomark _))))) (pss_one (ps_ret (pe_tup (pa_cons pe_str pa_nil)))) pss_nil) (pss_cons (ps_if (pt_cmpR op_eq (pv 3) pe_str (nomark _)) (pss_one (ps_ret (pe_tup (pa_cons pe_str (pa_cons (pe_call GO hr rfl mO kO bO .nil pass0 (pa_cons (pv 0) (pa_cons (pe_lst (pa_cons pe_int (pa_cons pe_int (pa_cons pe_int (pa_cons pe_int (pa_cons pe_int (pa_cons (pe_op op_add pe_int (pe_call GN hr1 rfl mN kN bN .nil pass0 (pa_cons (pv 0) (pa_cons pe_int pa_nil)))) (pa_cons pe_int pa_nil)))))))) pa_nil))) pa_nil))))) pss_nil) (pss_one (ps_ret (pe_tup (pa_cons pe_str (pa_cons (pe_op op_add pe_int (pe_call GN hr1 rfl mN kN bN .nil pass0 (pa_cons (pv 0) (pa_cons (pe_callB call_len_seq (by rfl) T.len (by decide +kernel) (pa_cons (pv 1) pa_nil)) pa_nil)))) pa_nil)))))))), ?_⟩
    refine ⟨_, rfl, _, rfl, a, wl, _, b, rfl, S, by omega, nwl, hw, by rw [List.length_map]; exact okW.1, by rw [List.length_map]; exact okW.2.1, fun x H2 hx kx2 R2 => ?_⟩
    obtain ⟨wd, hwd, rfl⟩ := List.mem_map.mp hx
    have hwords := okW.2.2 wd hwd
    have hg2 := kx2 _ _ ngl hg
    refine ⟨_, rfl, (by show 0 ≤ sizeLine; decide), fun e0 he0 => ?_⟩
    have S3 : Same H2 (upd H2 e0 (.lst [])) := same_new he0
    refine ⟨_, _, list_dp (SqL.of (S3 _ _ hg2)), list_dp (ns := []) (SqL.of upd_same), PySem.W.ke_shaped_ints gs, PySem.W.ke_shaped_ints [], _, rfl, ?_⟩
    rw [list_eqv]
    have kx3 : Kx a H (upd H2 e0 (.lst [])) := kx2.trans (Kx.of S3)
    have hg3 := S3 _ _ hg2
    have R3 := R2.mono S3
    generalize hH3 : upd H2 e0 (.lst []) = H3 at hg3 kx3 R3
    have fin : (("end" : Str) ∈ ws ∨ gs = []) → ∀ D' : Ends, D'.rt = Q → tRet (tTup (tCons (tC (.str "end")) tNil)) D' [some (.ref a), some (.ref gl), some (.ref wl), some (.str wd)] H3 := by
      intro hy D' hD'
      refine ⟨(by show 1 ≤ sizeLine; decide), fun t ht => ?_⟩
      rw [hD']
      refine k t .fin _ (R3.new ht).symm upd_same True.intro ?_ (kx3.trans (Kx.of (same_new ht))) ((R3.mono (same_new ht)).le (by omega))
      exact hy.imp id fun e => ⟨rfl, e⟩
    by_cases hge : gs = []
    · refine iteTb (decide_eq_true hge) (iteT ?_)
      exact fin (.inr hge) _ rfl
    · refine iteFb (decide_eq_false hge) ?_
      have hlen : 0 < gs.length := List.length_pos_iff.mpr hge
      refine ⟨_, rfl, rfl, _, rfl, ?_⟩
      rcases hwords with rfl | rfl | rfl
      · exact iteTb wEE (fin (.inl hwd) _ rfl)
      · refine iteFb wTE ?_
        refine ⟨_, rfl, rfl, _, rfl, iteTb wTT ?_⟩
        refine ⟨_, rfl, _, rfl, a, 30, b + 1, rfl, R3, by omega, by decide, by decide, fun r H4 r0 r1 kx4 R4 => ⟨_, _, rfl, rfl, (by show 7 ≤ sizeLine; decide), fun q hq => ?_⟩⟩
        refine ⟨a, q, _, b + 2, rfl, R4.mono (same_new hq), by omega, (R4.new hq).symm, upd_same, by show 0 < 7; decide, by show 7 < 1000; decide, fun x H5 hx kx5 R5 => ?_⟩
        obtain ⟨bb, rfl, bb1, bb2⟩ : ∃ bb : Int, x = .int bb ∧ 2 ≤ bb ∧ bb ≤ 1000 := by
          simp only [List.mem_cons, List.not_mem_nil, or_false] at hx
          rcases hx with rfl | rfl | rfl | rfl | rfl | rfl | rfl <;> exact ⟨_, rfl, by omega, by omega⟩
        refine ⟨(by show 2 ≤ sizeLine; decide), fun t ht => ?_⟩
        exact k t (.times bb) _ (R5.new ht).symm upd_same ⟨hlen, bb1, bb2⟩ (.inl hwd) (kx3.trans (kx4.trans ((Kx.of (same_new hq)).trans (kx5.trans (Kx.of (same_new ht)))))) ((R5.mono (same_new ht)).le (by omega))
      · refine iteFb wRE ?_
        refine ⟨_, rfl, rfl, _, rfl, iteFb wRT ?_⟩
        refine ⟨_, rfl, _, rfl, gl, _, rfl, .inl (SqL.of hg3), a, (gs.length : Int), b + 1, ?_, R3, by omega, by omega, by have := okG.1; omega, fun r H4 r0 r1 kx4 R4 => ?_⟩
        · rw [List.length_map]
          rfl
        obtain ⟨j, rfl⟩ : ∃ j : Nat, r = (j : Int) := ⟨r.toNat, by omega⟩
        refine ⟨_, _, rfl, rfl, (by show 2 ≤ sizeLine; decide), fun t ht => ?_⟩
        exact k t (.rep (1 + j)) _ (R4.new ht).symm upd_same ⟨by omega, by omega⟩ (.inl hwd) (kx3.trans (kx4.trans (Kx.of (same_new ht)))) ((R4.mono (same_new ht)).le (by omega))
end
end RS
namespace RS
open PySem L2
/-! ### first attempts from a distance on: the mathematics -/
theorem gap_pos {gs : List Int} {tl : Tl} (okG : GapsOk gs) (okT : TlOk gs.length tl) {n : Nat} (hf : tl = .fin → n < gs.length) : 1 ≤ gapf gs tl n := by
  by_cases h : n < gs.length
  · rw [gap_low h]
    exact (gap_bd okG h).1
  · cases tl with
    | fin => exact absurd (hf rfl) h
    | times b =>
      rw [gap_times (by omega)]
      have h1 : 1 ≤ lastG gs := (gap_bd okG (k := gs.length - 1) (by have := okT.1; omega)).1
      have h2 : 0 < b ^ (n - gs.length + 1) := Int.pow_pos (by have := okT.2.1; omega)
      have h3 := Int.mul_le_mul h1 (show 1 ≤ b ^ (n - gs.length + 1) by omega) (by decide) (by omega)
      omega
    | rep m =>
      rw [gap_rep (by omega)]
      have h1 : (n - gs.length) % m < m := Nat.mod_lt _ (by have := okT.1; omega)
      exact (gap_bd okG (by have := okT.2; omega)).1
theorem off_mono {gs : List Int} {tl : Tl} (okG : GapsOk gs) (okT : TlOk gs.length tl) (i : Nat) : ∀ k, (tl = .fin → i + k ≤ gs.length) → off gs tl i + (k : Int) ≤ off gs tl (i + k)
  | 0, _ => by simp
  | k + 1, h => by
    have ih := off_mono okG okT i k fun e => by have := h e; omega
    have hf : tl = .fin → i + k < gs.length := fun e => by have := h e; omega
    have hg := gap_pos okG okT hf
    have hs := off_succ okT hf
    rw [show i + (k + 1) = i + k + 1 by omega, hs]
    omega
theorem off_lt {gs : List Int} {tl : Tl} (okG : GapsOk gs) (okT : TlOk gs.length tl) {i j : Nat} (h : i < j) (hf : tl = .fin → j ≤ gs.length) : off gs tl i < off gs tl j := by
  have := off_mono okG okT i (j - i) fun e => by have := hf e; omega
  rw [show i + (j - i) = j by omega] at this
  omega
theorem AttOk.fin {gs : List Int} {tl : Tl} {n : Nat} (h : AttOk gs tl n) : tl = .fin → n ≤ gs.length := fun e => by subst e; exact h
/-- what first_from hands back -/
def FF (gs : List Int) (tl : Tl) (d : Int) (r : V) : Prop := (r = .non ∧ tl = .fin ∧ pre gs gs.length < d) ∨ ∃ n : Nat, r = .int (n : Int) ∧ AttOk gs tl n ∧ d ≤ off gs tl n ∧ (0 < n → off gs tl (n - 1) < d)
theorem FF_one {gs : List Int} {tl : Tl} (okG : GapsOk gs) (okT : TlOk gs.length tl) {d : Int} {r s : V} (h1 : FF gs tl d r) (h2 : FF gs tl d s) : r = s := by
  have key : ∀ {n m : Nat}, AttOk gs tl n → AttOk gs tl m → d ≤ off gs tl n → (0 < m → off gs tl (m - 1) < d) → ¬ n < m := by
    intro n m hn hm h3 h4 h5
    have h6 := h4 (by omega)
    have h7 : off gs tl n ≤ off gs tl (m - 1) := by
      by_cases e : n = m - 1
      · rw [← e]
        exact Int.le_refl _
      · exact Int.le_of_lt (off_lt okG okT (by omega) fun e => by have := hm.fin e; omega)
    omega
  have low : ∀ {n : Nat}, tl = .fin → AttOk gs tl n → d ≤ off gs tl n → ¬ pre gs gs.length < d := by
    intro n e hn h3 h4
    subst e
    have hn : n ≤ gs.length := hn
    have h5 := off_mono okG okT n (gs.length - n) fun _ => by omega
    rw [show n + (gs.length - n) = gs.length by omega, off_low (Nat.le_refl gs.length)] at h5
    omega
  rcases h1 with ⟨rfl, e1, l1⟩ | ⟨n, rfl, a1, b1, c1⟩ <;> rcases h2 with ⟨rfl, e2, l2⟩ | ⟨m, rfl, a2, b2, c2⟩
  · rfl
  · exact absurd l1 (low e1 a2 b2)
  · exact absurd l2 (low e2 a1 b1)
  · have x := key a1 a2 b1 c2
    have y := key a2 a1 b2 c1
    rw [show n = m by omega]
/-- what attempt_at hands back -/
def AA (gs : List Int) (tl : Tl) (d : Int) (r : V) : Prop := ∃ a, FF gs tl d a ∧ ((∃ n : Nat, a = .int (n : Int) ∧ off gs tl n = d ∧ r = a) ∨ ((∀ n : Nat, a = .int (n : Int) → off gs tl n ≠ d) ∧ r = .non))
theorem off_turn {gs : List Int} {m : Nat} (h1 : 1 ≤ m) (h2 : m ≤ gs.length) {j : Nat} (hj0 : gs.length - m ≤ j) (hj1 : j ≤ gs.length) (q : Nat) : off gs (.rep m) (j + m * q) = pre gs j + (q : Int) * per gs m := by
  cases q with
  | zero =>
    rw [Nat.mul_zero, Nat.add_zero, off_low hj1]
    simp
  | succ q =>
    have e0 : m * (q + 1) = m * q + m := Nat.mul_succ m q
    rw [off_rep h1 h2 (by omega)]
    by_cases hj : j = gs.length
    · subst hj
      rw [show gs.length + m * (q + 1) - gs.length = m * (q + 1) by omega, Nat.mul_mod_right, Nat.mul_div_cancel_left _ (by omega), Nat.add_zero, Int.add_mul, Int.one_mul]
      have e1 : per gs m = pre gs gs.length - pre gs (gs.length - m) := rfl
      omega
    · rw [show j + m * (q + 1) - gs.length = (j - (gs.length - m)) + m * q by omega, Nat.add_mul_mod_self_left, Nat.add_mul_div_left _ _ (by omega), Nat.mod_eq_of_lt (by omega), Nat.div_eq_of_lt (by omega), Nat.zero_add, show gs.length - m + (j - (gs.length - m)) = j by omega]
      rw [Int.natCast_add, Int.natCast_one]
end RS
namespace RS
open PySem L2
section
variable {P : Program} {w : World} {K : PySem.W.Frag} {mg : Str → Option Value} {base : Heap}
/-! ### _first_at_least -/
def spFal : Sp := fun vs H Q _ => ∃ (o : Addr) (xs : List Int) (d : Int) (j : Nat), vs = [.ref o, .int d] ∧ H o = some (.lst (xs.map V.int)) ∧ j < xs.length ∧ d ≤ xs.getD j 0 ∧ ∀ n : Nat, n ≤ j → d ≤ xs.getD n 0 → (∀ i, i < n → xs.getD i 0 < d) → Q (.int (n : Int)) H
theorem scFal : FnScope ["offsets", "distance", "position"] ["offsets", "distance"] (defScope s_first_at_least) := ⟨rfl, rfl, rfl, by decide +kernel, rfl, by decide +kernel, by decide +kernel⟩
theorem ok_fal {f : Addr} {fd : FuncData} (F : Fun K "_first_at_least" "_first_at_least" s_first_at_least f fd) : FnOk P w K mg base CX0 1 f fd ["offsets", "distance"] spFal := by
  refine F.ok scFal (fun vs H Q E h => ?_) (fun cdv A outer s H vs Q E hr h => ?_)
  · obtain ⟨o, xs, d, j, rfl, _⟩ := h
    rfl
  · obtain ⟨o, xs, d, j, rfl, ho, hj, hd, k⟩ := h
    refine ⟨_, (pss_cons (ps_set (i := 2) scFal.nd rfl (Or.inl rfl) pe_int) (pss_cons (ps_while PassesOwn.never (pt_cmpR op_lt (pe_ix ix_list (pv 0) (pv 2) (fun _ _ => rfl)) (pv 1) (nomark _)) (pss_one (ps_set (i := 2) scFal.nd rfl (Or.inl rfl) (pe_op op_add (pv 2) pe_int)))) (pss_one (ps_ret (pv 2))))), ?_⟩
    refine ⟨fun m σ H' => H' = H ∧ ∃ i : Nat, i ≤ j ∧ m = j - i ∧ σ = [some (.ref o), some (.int d), some (.int (i : Int))] ∧ ∀ k, k < i → xs.getD k 0 < d, ⟨j, rfl, 0, Nat.zero_le _, rfl, rfl, fun k hk => absurd hk (Nat.not_lt_zero _)⟩, ?_⟩
    rintro m σ H' ⟨rfl, i, hi, rfl, rfl, hall⟩
    refine ⟨_, rfl, _, rfl, o, _, _, _, rfl, rfl, SqL.of ho, at_map (getD_get (by omega)), _, rfl, _, _, rfl, rfl, _, rfl, ?_⟩
    by_cases hlt : xs.getD i 0 < d
    · refine iteTb (decide_eq_true hlt) ?_
      have hne : i ≠ j := fun e => by subst e; omega
      refine ⟨fun σ' H2 => H2 = H' ∧ σ' = [some (.ref o), some (.int d), some (.int ((i : Int) + 1))], ?_, ?_⟩
      · rintro σ' H2 ⟨rfl, rfl⟩
        refine ⟨j - (i + 1), by omega, rfl, i + 1, by omega, rfl, rfl, fun k hk => ?_⟩
        by_cases e : k = i
        · subst e
          exact hlt
        · exact hall k (by omega)
      · exact ⟨_, rfl, _, _, rfl, rfl, rfl, rfl⟩
    · refine iteFb (decide_eq_false hlt) ?_
      exact ⟨_, rfl, k i hi (by omega) hall⟩
/-! ### _surely_short -/
theorem geo_short {b : Int} (h : 2 ≤ b) : ∀ k, b * geo b k < 2 * b ^ k
  | 0 => by simp [geo]
  | k + 1 => by
    have ih := geo_short h k
    have p : 0 < b ^ k := Int.pow_pos (by omega)
    have e : 2 * b ^ k ≤ b * b ^ k := Int.mul_le_mul_of_nonneg_right h (Int.le_of_lt p)
    rw [geo, Int.mul_add, Int.pow_succ, Int.mul_comm (b ^ k) b]
    omega
theorem bits_nat {n : Nat} (h : 0 < n) : ∃ j, Builtin.Int.intBits (n : Int) = j + 1 ∧ 2 ^ j ≤ n ∧ n < 2 ^ (j + 1) := by
  refine ⟨n.log2, ?_, Nat.log2_self_le (by omega), Nat.lt_log2_self⟩
  unfold Builtin.Int.intBits
  rw [if_neg (by simp; omega)]
  rfl
theorem short_ok {L b way : Int} (hL : 1 ≤ L) (hb : 2 ≤ b) (hw : 0 < way) {k : Nat} (h : (k : Int) ≤ (((Builtin.Int.intBits way : Nat) : Int) - ((Builtin.Int.intBits L : Nat) : Int) - 2) / ((Builtin.Int.intBits (b - 1) : Nat) : Int)) : 2 * L * b ^ k ≤ way := by
  obtain ⟨L, rfl⟩ := Int.eq_ofNat_of_zero_le (show 0 ≤ L by omega)
  obtain ⟨way, rfl⟩ := Int.eq_ofNat_of_zero_le (show 0 ≤ way by omega)
  obtain ⟨c, hc⟩ := Int.eq_ofNat_of_zero_le (show 0 ≤ b - 1 by omega)
  have eb : b = ((c + 1 : Nat) : Int) := by omega
  rw [hc] at h
  subst eb
  obtain ⟨w, ew, hw1, _⟩ := bits_nat (n := way) (by omega)
  obtain ⟨l, el, _, hl1⟩ := bits_nat (n := L) (by omega)
  obtain ⟨d, ed, _, hd1⟩ := bits_nat (n := c) (by omega)
  rw [ew, el, ed] at h
  have h2 : (k : Int) * ((d + 1 : Nat) : Int) ≤ ((w + 1 : Nat) : Int) - ((l + 1 : Nat) : Int) - 2 :=
    Int.le_trans (Int.mul_le_mul_of_nonneg_right h (by omega)) (Int.ediv_mul_le _ (by omega))
  rw [← Int.natCast_mul] at h2
  have h3 : k * (d + 1) + l + 2 ≤ w := by omega
  have p1 : (c + 1) ^ k ≤ (2 ^ (d + 1)) ^ k := Nat.pow_le_pow_left (by omega) k
  rw [← Nat.pow_mul, Nat.mul_comm] at p1
  have p2 : L * (c + 1) ^ k ≤ 2 ^ (l + 1) * 2 ^ (k * (d + 1)) := Nat.mul_le_mul (by omega) p1
  rw [← Nat.pow_add] at p2
  have p3 : 2 ^ (l + 1 + k * (d + 1)) * 2 ≤ 2 ^ w := by
    rw [← Nat.pow_succ]
    exact Nat.pow_le_pow_right (by decide) (by omega)
  have p4 : 2 * (L * (c + 1) ^ k) ≤ way := by omega
  rw [Int.mul_assoc]
  exact_mod_cast p4
def spSs (C : Addr) : Sp := fun vs H Q _ => ∃ (p g t o : Addr) (gs : List Int) (b d : Int), vs = [.ref p, .int d] ∧ RuleAt C H p g t o gs (.times b) ∧ 0 < d ∧ ∀ k : Nat, (0 < k → 2 * lastG gs * b ^ k ≤ d) → Q (.int (k : Int)) H
theorem scSs : FnScope ["self", "way", "bits"] ["self", "way"] (defScope s_Rule_surely_short) := ⟨rfl, rfl, rfl, by decide +kernel, rfl, by decide +kernel, by decide +kernel⟩
theorem ok_ss {f C : Addr} {fd : FuncData} (F : Fun K "_surely_short" "Rule._surely_short" s_Rule_surely_short f fd) (T : Txt K mg C) : FnOk P w K mg base CX0 1 f fd ["self", "way"] (spSs C) := by
  refine F.ok scSs (fun vs H Q E h => ?_) (fun cdv A outer s H vs Q E hr h => ?_)
  · obtain ⟨p, g, t, o, gs, b, d, rfl, _⟩ := h
    rfl
  · obtain ⟨p, g, t, o, gs, b, d, rfl, R, hd0, k⟩ := h
    have hl := R.okT.1
    have hb0 := R.okT.2.1
    have hb1 := R.okT.2.2
    have hg := gap_bd R.okG (k := gs.length - 1) (by omega)
    have hg : 1 ≤ lastG gs ∧ lastG gs ≤ 1000000000000 := hg
    refine ⟨_, (pss_cons (ps_set (i := 2) scSs.nd rfl (Or.inl rfl) (pe_op op_sub (pe_op op_sub (pe_bits (pv 1)) (pe_bits (pe_ix ix_list (pe_fld (pv 0) rfl) (pe_un un_neg pe_int) (fun _ _ => rfl)))) pe_int)) (pss_one (ps_ret (pe_callB (call_max2 rfl) (by rfl) T.max (by decide +kernel) (pa_cons pe_int (pa_cons (pe_op op_fdiv (pv 2) (pe_bits (pe_op op_sub (pe_ix ix_tup (pe_fld (pv 0) rfl) pe_int (fun _ _ => rfl)) pe_int))) pa_nil)))))), ?_⟩
    refine ⟨_, rfl, d, rfl, ?_⟩
    refine rdLast T R rfl hl ⟨_, rfl, _, _, rfl, rfl, _, _, rfl, rfl, ?_⟩
    refine ⟨_, rfl, ?_⟩
    refine rdB T R rfl ⟨_, _, rfl, rfl, _, rfl, ?_⟩
    obtain ⟨c, hc⟩ := Int.eq_ofNat_of_zero_le (show 0 ≤ b - 1 by omega)
    obtain ⟨j, ej, hj1, _⟩ := bits_nat (n := c) (by omega)
    have hj : 2 ^ j < 2 ^ 10 := by omega
    have hj2 := (Nat.pow_lt_pow_iff_right (a := 2) (by decide)).mp hj
    have hcb : ((Builtin.Int.intBits (b - 1) : Nat) : Int) = ((j + 1 : Nat) : Int) := by rw [hc, ej]
    refine ⟨_, _, rfl, rfl, ⟨by omega, by omega⟩, _, _, rfl, ?_⟩
    split
    · rename_i hp
      obtain ⟨n, hn⟩ := Int.eq_ofNat_of_zero_le (Int.le_of_lt hp)
      rw [hn]
      exact k n fun _ => short_ok hg.1 hb0 hd0 (by rw [← hn]; exact Int.le_refl _)
    · exact k 0 fun h => absurd h (Nat.lt_irrefl _)
/-! ### _first_growing -/
def spFg (C : Addr) : Sp := fun vs H Q _ => ∃ (p g t o : Addr) (gs : List Int) (b d : Int), vs = [.ref p, .int d] ∧ RuleAt C H p g t o gs (.times b) ∧ pre gs gs.length < d ∧ d ≤ off gs (.times b) 1000 ∧ ∀ r H', Same H H' → FF gs (.times b) d r → Q r H'
theorem scFg : FnScope ["self", "distance", "attempt", "offset", "gap"] ["self", "distance"] (defScope s_Rule_first_growing) := ⟨rfl, rfl, rfl, by decide +kernel, rfl, by decide +kernel, by decide +kernel⟩
theorem rdTb {tr : TE} {C p g t o : Addr} {gs : List Int} {H : Hp} {σ : L2.St} {i : Nat} {b : Int} {sp : Sp} {dvs : List V} {E : XK} {Q : VK} (T : Txt K mg C) (R : RuleAt C H p g t o gs (.times b)) (hi : σ[i]? = some (some (.ref p))) (q : tr σ H fun y H2 => sp ([.int b, y] ++ dvs) H2 Q E) :
    tCall sp dvs E (tCons (tOp (rIxT K) (tFld K (tVar i) "_tail") (tC (.int 1))) (tCons tr tNil)) σ H Q := by
  dsimp only [tCall, tCons]
  exact rdB T R hi q
theorem ok_fg {f C fS fO fW : Addr} {fd fdS fdO fdW : FuncData} (F : Fun K "_first_growing" "Rule._first_growing" s_Rule_first_growing f fd) (T : Txt K mg C) (FS : Fun K "_surely_short" "Rule._surely_short" s_Rule_surely_short fS fdS) (bS : Binds K fdS ["self", "way"] []) (mS : Meth K C "_surely_short" fS)
    (GO : FnOk P w K mg base CX0 3 fO fdO ["self", "attempt"] (spOff C)) (bO : Binds K fdO ["self", "attempt"] []) (mO : Meth K C "_offset_of" fO) (FW : Fun K "_power" "_power" s_power fW fdW) (bW : Binds K fdW ["base", "exponent"] []) (mW : mg "_power" = some (.ref fW)) : FnOk P w K mg base CX0 4 f fd ["self", "distance"] (spFg C) := by
  have GS : FnOk P w K mg base CX0 1 fS fdS ["self", "way"] (spSs C) := ok_ss FS T
  have GW : FnOk P w K mg base CX0 1 fW fdW ["base", "exponent"] spPower := ok_power FW
  refine F.ok scFg (fun vs H Q E h => ?_) (fun cdv A outer s H vs Q E hr h => ?_)
  · obtain ⟨p, g, t, o, gs, b, d, rfl, _⟩ := h
    rfl
  · obtain ⟨p, g, t, o, gs, b, d, rfl, R, hd0, hd1, k⟩ := h
    have hr1 := hr.mono (show 1 ≤ 3 by decide)
    have hl := R.okT.1
    have hb0 := R.okT.2.1
    have hb1 := R.okT.2.2
    have hlen : gs.length ≤ 20 := R.okG.1
    refine ⟨_, (pss_cons (ps_set (i := 2) scFg.nd rfl (Or.inl rfl) (pe_op op_add (pe_callB call_len_seq (by rfl) T.len (by decide +kernel) (pa_cons (pe_fld (pv 0) rfl) pa_nil)) (pe_meth (pv 0) T.cl mS GS hr1 bS .nil pass0 (pa_cons (pe_op op_sub (pv 1) (pe_ix ix_list (pe_fld (pv 0) rfl) (pe_un un_neg pe_int) (fun _ _ => rfl))) pa_nil)))) (pss_cons (ps_set (i := 3) scFg.nd rfl (Or.inl rfl) (pe_meth (pv 0) T.cl mO GO hr bO .nil pass0 (pa_cons (pv 2) pa_nil))) (pss_cons (ps_set (i := 4) scFg.nd rfl (Or.inl rfl) (pe_op op_mulW (pe_ix ix_list (pe_fld (pv 0) rfl) (pe_un un_neg pe_int) (fun _ _ => rfl)) (pe_call GW hr1 rfl mW FW.kp bW .nil pass0 (pa_cons (pe_ix ix_tup (pe_fld (pv 0) rfl) pe_int (fun _ _ => rfl)) (pa_cons (pe_op op_sub (pv 2) (pe_callB call_len_seq (by rfl) T.len (by decide +kernel) (pa_cons (pe_fld (pv 0) rfl) pa_nil))) pa_nil))))) (pss_cons (ps_while PassesOwn.never (pt_cmpR op_lt (pv 3) (pv 1) (nomark _)) (pss_cons (ps_set (i := 4) scFg.nd rfl (Or.inl rfl) (pe_op op_mul (pv 4) (pe_ix ix_tup (pe_fld (pv 0) rfl) pe_int (fun _ _ => rfl)))) (pss_cons (ps_set (i := 3) scFg.nd rfl (Or.inl rfl) (pe_op op_add (pv 3) (pv 4))) (pss_one (ps_set (i := 2) scFg.nd rfl (Or.inl rfl) (pe_op op_add (pv 2) pe_int)))))) (pss_one (ps_ret (pv 2))))))), ?_⟩
    obtain ⟨dx, hob⟩ := R.ob
    refine rdG T R rfl ⟨g, _, rfl, .inl (SqL.of R.hg), ?_⟩
    rw [List.length_map]
    refine ⟨_, rfl, p, dx, _, rfl, hob, flds_no _ _ _ (by decide +kernel) (by decide +kernel) (by decide +kernel), _, rfl, ?_⟩
    refine rdLastO T R rfl ⟨_, _, rfl, rfl, p, g, t, o, gs, b, _, rfl, R, by omega, fun k0 hk0 => ?_⟩
    refine ⟨_, _, rfl, rfl, ?_⟩
    have ok0 : gs.length + k0 ≤ 1000 ∧ (0 < k0 → off gs (.times b) (gs.length + k0) < d) := by
      by_cases hz : 0 < k0
      · have h1 := hk0 hz
        have h2 := geo_short hb0 k0
        have hg := gap_bd R.okG (k := gs.length - 1) (by omega)
        have hg : 1 ≤ lastG gs ∧ lastG gs ≤ 1000000000000 := hg
        have h3 : lastG gs * (b * geo b k0) < lastG gs * (2 * b ^ k0) := Int.mul_lt_mul_of_pos_left h2 (by omega)
        have h4 : lastG gs * (2 * b ^ k0) = 2 * lastG gs * b ^ k0 := by rw [Int.mul_comm 2 (lastG gs), Int.mul_assoc]
        have h5 : off gs (.times b) (gs.length + k0) < d := by
          rw [off_times hb0 (Nat.le_add_right _ _), Nat.add_sub_cancel_left, Int.mul_assoc]
          omega
        refine ⟨?_, fun _ => h5⟩
        by_cases hn : gs.length + k0 ≤ 1000
        · exact hn
        · have := off_lt R.okG R.okT (i := 1000) (j := gs.length + k0) (by omega) (fun e => nomatch e)
          omega
      · exact ⟨by omega, fun h => absurd h hz⟩
    dsimp only [gName]
    rw [← Int.natCast_add]
    refine ⟨_, rfl, p, dx, _, rfl, hob, flds_no _ _ _ (by decide +kernel) (by decide +kernel) (by decide +kernel), _, rfl, p, g, t, o, gs, .times b, gs.length + k0, rfl, R, ok0.1, fun H1 S1 => ?_⟩
    have R1 := R.mono S1
    dsimp only [tSeq, tAsg, tOp]
    refine rdLast T R1 rfl hl ?_
    refine rdTb T R1 rfl ⟨_, rfl, ?_⟩
    refine rdG T R1 rfl ⟨g, _, rfl, .inl (SqL.of R1.hg), _, _, rfl, rfl, ?_⟩
    refine ⟨b, k0, ?_, by omega, by omega, by omega, _, _, rfl, rfl, ?_, ?_⟩
    · rw [List.length_map]
      show [V.int b, V.int (((gs.length + k0 : Nat) : Int) - (gs.length : Int))] = _
      rw [show ((gs.length + k0 : Nat) : Int) - (gs.length : Int) = (k0 : Int) by omega]
    · have hg := gap_bd R.okG (k := gs.length - 1) (by omega)
      have hg : 1 ≤ lastG gs ∧ lastG gs ≤ 1000000000000 := hg
      exact wide_mul (a := 64) (b := 20481) (by omega) (pow_small (by omega) (by omega) (by omega)) (by decide) (by decide) (by decide)
    generalize hn0' : gs.length + k0 = n0 at ok0 ⊢
    have hn0 : gs.length ≤ n0 := by omega
    have ek : k0 = n0 - gs.length := by omega
    subst ek
    refine ⟨fun m σ H' => H' = H1 ∧ ∃ n : Nat, gs.length ≤ n ∧ n ≤ 1000 ∧ m = 1000 - n ∧ σ = [some (.ref p), some (.int d), some (.int (n : Int)), some (.int (off gs (.times b) n)), some (.int (lastG gs * b ^ (n - gs.length)))] ∧ (n0 < n → off gs (.times b) (n - 1) < d) ∧ n0 ≤ n, ⟨1000 - n0, rfl, n0, hn0, ok0.1, rfl, rfl, fun h => absurd h (Nat.lt_irrefl _), Nat.le_refl _⟩, ?_⟩
    rintro m σ H' ⟨rfl, n, hn0, hn1, rfl, rfl, hall, hnn⟩
    refine ⟨_, rfl, _, rfl, _, _, rfl, rfl, _, rfl, ?_⟩
    by_cases hlt : off gs (.times b) n < d
    · refine iteTb (decide_eq_true hlt) ?_
      have hne : n ≠ 1000 := fun e => by subst e; omega
      have eg : lastG gs * b ^ (n - gs.length) * b = lastG gs * b ^ (n + 1 - gs.length) := by
        rw [show n + 1 - gs.length = (n - gs.length) + 1 by omega, Int.pow_succ, Int.mul_assoc]
      have eo : off gs (.times b) n + lastG gs * b ^ (n + 1 - gs.length) = off gs (.times b) (n + 1) := by
        rw [off_succ R.okT (n := n) (fun e => nomatch e), gap_times hn0, show n + 1 - gs.length = (n - gs.length) + 1 by omega]
      refine ⟨fun σ' H2 => H2 = H' ∧ σ' = [some (.ref p), some (.int d), some (.int ((n : Int) + 1)), some (.int (off gs (.times b) (n + 1))), some (.int (lastG gs * b ^ (n + 1 - gs.length)))], ?_, ?_⟩
      · rintro σ' H2 ⟨rfl, rfl⟩
        exact ⟨1000 - (n + 1), by omega, rfl, n + 1, by omega, by omega, rfl, rfl, fun _ => hlt, by omega⟩
      · refine ⟨_, rfl, ?_⟩
        refine rdB T R1 rfl ⟨_, _, rfl, rfl, .inr ⟨by omega, by omega⟩, ?_⟩
        refine ⟨_, rfl, _, rfl, _, _, rfl, rfl, _, rfl, _, _, rfl, rfl, rfl, ?_⟩
        show [some (V.ref p), some (V.int d), some (V.int ((n : Int) + 1)), some (V.int (off gs (.times b) n + lastG gs * b ^ (n - gs.length) * b)), some (V.int (lastG gs * b ^ (n - gs.length) * b))] = _
        rw [eg, eo]
    · refine iteFb (decide_eq_false hlt) ?_
      have hne : gs.length ≠ n := fun e => by
        subst e
        rw [off_low (Nat.le_refl gs.length)] at hlt
        exact hlt hd0
      refine ⟨_, rfl, k _ _ S1 (.inr ⟨n, rfl, hn1, by omega, fun _ => ?_⟩)⟩
      by_cases h2 : n0 < n
      · exact hall h2
      · have e3 : n = n0 := by omega
        subst e3
        exact absurd (ok0.2 (by omega)) hlt
theorem rdOc {C p g t o : Addr} {gs : List Int} {tl : Tl} {H : Hp} {σ : L2.St} {i : Nat} {sp : Sp} {dvs : List V} {E : XK} {tr : TA} {Q : VK} (T : Txt K mg C) (R : RuleAt C H p g t o gs tl) (hi : σ[i]? = some (some (.ref p))) (q : tr σ H fun xs H2 => sp ((.ref o :: xs) ++ dvs) H2 Q E) :
    tCall sp dvs E (tCons (tFld K (tVar i) "_offsets") tr) σ H Q := by
  dsimp only [tCall, tCons]
  exact rdO T R hi q
/-! ### _first_repeated -/
def spFrp (C : Addr) : Sp := fun vs H Q _ => ∃ (p g t o : Addr) (gs : List Int) (m : Nat) (d : Int), vs = [.ref p, .int d] ∧ RuleAt C H p g t o gs (.rep m) ∧ pre gs gs.length < d ∧ d < 2 ^ 200 ∧ ∀ r H', Same H H' → FF gs (.rep m) d r → Q r H'
theorem scFrp : FnScope ["self", "distance", "first", "periods", "rest", "within"] ["self", "distance"] (defScope s_Rule_first_repeated) := ⟨rfl, rfl, rfl, by decide +kernel, rfl, by decide +kernel, by decide +kernel⟩
theorem offsD {gs : List Int} {j : Nat} (h : j ≤ gs.length) : (offs gs).getD j 0 = pre gs j := by
  rw [List.getD_eq_getElem?_getD, offs_get gs h]
  rfl
theorem bits_lt {i : Int} (h0 : 0 ≤ i) (h1 : i < 2 ^ 200) : Builtin.Int.intBits i ≤ 200 := by
  unfold Builtin.Int.intBits
  split
  · omega
  · have := PySem.Flt.log2_lt_of (n := i.natAbs) (k := 200) (by decide) (by omega)
    omega
theorem ok_frp {f C fR fP fL : Addr} {fd fdR fdP fdL : FuncData} (F : Fun K "_first_repeated" "Rule._first_repeated" s_Rule_first_repeated f fd) (T : Txt K mg C) (FR : Fun K "first_repeating" "Rule.first_repeating" s_Rule_first_repeating fR fdR) (bR : Binds K fdR ["self"] []) (mR : Meth K C "first_repeating" fR)
    (FP : Fun K "period" "Rule.period" s_Rule_period fP fdP) (bP : Binds K fdP ["self"] []) (mP : Meth K C "period" fP) (FL : Fun K "_first_at_least" "_first_at_least" s_first_at_least fL fdL) (bL : Binds K fdL ["offsets", "distance"] []) (mL : mg "_first_at_least" = some (.ref fL)) :
    FnOk P w K mg base CX0 3 f fd ["self", "distance"] (spFrp C) := by
  have GR : FnOk P w K mg base CX0 1 fR fdR ["self"] (spFR C) := ok_fr FR T
  have GP : FnOk P w K mg base CX0 2 fP fdP ["self"] (spPer C) := ok_per FP T FR bR mR
  have GL : FnOk P w K mg base CX0 1 fL fdL ["offsets", "distance"] spFal := ok_fal FL
  refine F.ok scFrp (fun vs H Q E h => ?_) (fun cdv A outer s H vs Q E hr h => ?_)
  · obtain ⟨p, g, t, o, gs, m, d, rfl, _⟩ := h
    rfl
  · obtain ⟨p, g, t, o, gs, m, d, rfl, R, hd0, hd1, k⟩ := h
    have hr1 := hr.mono (show 1 ≤ 2 by decide)
    have hm0 : 1 ≤ m := R.okT.1
    have hm1 : m ≤ gs.length := R.okT.2
    have hp := per_bd R.okG hm0 hm1
    have hpre := pre_le R.okG (gs.length - m) (by omega)
    have eper : per gs m = pre gs gs.length - pre gs (gs.length - m) := rfl
    refine ⟨_, (pss_cons (ps_set (i := 2) scFrp.nd rfl (Or.inl rfl) (pe_meth0 (pv 0) T.cl mR GR hr1 bR .nil pass0)) (pss_cons (ps_asg (pe_callB call_divmodW (by rfl) T.divmod (by decide +kernel) (pa_cons (pe_op op_sub (pv 1) (pe_ix ix_list (pe_fld (pv 0) rfl) (pv 2) (fun _ _ => rfl))) (pa_cons (pe_meth0 (pv 0) T.cl mP GP hr bP .nil pass0) pa_nil))) (pg_tup rfl (pgs_cons (pg_name (i := 3) scFrp.nd rfl (Or.inl rfl)) (pgs_cons (pg_name (i := 4) scFrp.nd rfl (Or.inl rfl)) pgs_nil)))) (pss_cons (ps_set (i := 5) scFrp.nd rfl (Or.inl rfl) (pe_call GL hr1 rfl mL FL.kp bL .nil pass0 (pa_cons (pe_fld (pv 0) rfl) (pa_cons (pe_op op_add (pe_ix ix_list (pe_fld (pv 0) rfl) (pv 2) (fun _ _ => rfl)) (pv 4)) pa_nil)))) (pss_one (ps_ret (pe_op op_add (pv 5) (pe_op op_mul (pv 3) (pe_ix ix_tup (pe_fld (pv 0) rfl) pe_int (fun _ _ => rfl))))))))), ?_⟩
    obtain ⟨dx, hob⟩ := R.ob
    have nF : (flds g t o).lookup ("first_repeating" : Str) = none := flds_no _ _ _ (by decide +kernel) (by decide +kernel) (by decide +kernel)
    have nP : (flds g t o).lookup ("period" : Str) = none := flds_no _ _ _ (by decide +kernel) (by decide +kernel) (by decide +kernel)
    refine ⟨_, rfl, p, dx, _, rfl, hob, nF, p, g, t, o, gs, m, rfl, R, ?_⟩
    refine ⟨_, rfl, ?_⟩
    refine rdOx T R rfl ⟨_, rfl, o, _, _, _, rfl, rfl, SqL.of R.ho, at_map (offs_get gs (by omega)), _, _, rfl, rfl, ?_⟩
    refine ⟨_, rfl, p, dx, _, rfl, hob, nP, p, g, t, o, gs, .rep m, rfl, R, ?_⟩
    have hi0 : 0 ≤ d - pre gs (gs.length - m) := by omega
    refine ⟨_, _, rfl, divp_ok (by omega) (Nat.le_trans (bits_lt hi0 (by omega)) (by omega)), fun q hq => ?_⟩
    generalize hQ : (d - pre gs (gs.length - m)) / per gs m = qq
    generalize hRr : (d - pre gs (gs.length - m)) % per gs m = rr
    have eqr : per gs m * qq + rr = d - pre gs (gs.length - m) := by rw [← hQ, ← hRr]; exact Int.mul_ediv_add_emod _ _
    have hr0 : 0 ≤ rr := by rw [← hRr]; exact Int.emod_nonneg _ (by omega)
    have hr2 : rr < per gs m := by rw [← hRr]; exact Int.emod_lt_of_pos _ (by omega)
    have hq1 : 1 ≤ qq := by
      by_cases h : 1 ≤ qq
      · exact h
      · have : per gs m * qq ≤ per gs m * 0 := Int.mul_le_mul_of_nonneg_left (by omega) (by omega)
        omega
    obtain ⟨qn, rfl⟩ : ∃ qn : Nat, qq = (qn : Int) := ⟨qq.toNat, by omega⟩
    have S : Same H (upd H q (.tup [.int (qn : Int), .int rr])) := same_new hq
    have R2 := R.mono S
    refine ⟨q, _, rfl, SqT.of upd_same, rfl, _, _, rfl, _, _, rfl, rfl, ?_⟩
    obtain ⟨dx2, hob2⟩ := R2.ob
    refine rdOc T R2 rfl ?_
    refine rdOx T R2 rfl ⟨_, rfl, o, _, _, _, rfl, rfl, SqL.of R2.ho, at_map (offs_get gs (by omega)), _, rfl, _, _, rfl, rfl, ?_⟩
    refine ⟨o, offs gs, _, gs.length, rfl, R2.ho, by rw [offs_len]; omega, by rw [offsD (Nat.le_refl _)]; omega, fun j hj hdj hall => ?_⟩
    rw [offsD hj] at hdj
    have hj0 : gs.length - m ≤ j := by
      by_cases h : gs.length - m ≤ j
      · exact h
      · have := pre_mono R.okG j (gs.length - m - j) (by omega)
        rw [show j + (gs.length - m - j) = gs.length - m by omega] at this
        omega
    refine ⟨_, rfl, _, rfl, ?_⟩
    refine rdN T R2 rfl ⟨_, _, rfl, rfl, .inr ⟨by omega, by have := R.okG.1; omega⟩, _, _, rfl, rfl, ?_⟩
    have emul : (qn : Int) * per gs m = per gs m * (qn : Int) := Int.mul_comm _ _
    refine k _ _ S (.inr ⟨j + m * qn, ?_, True.intro, ?_, fun _ => ?_⟩)
    · rw [Int.natCast_add, Int.natCast_mul, Int.mul_comm (m : Int)]
    · rw [off_turn hm0 hm1 hj0 hj]
      omega
    · by_cases hj1 : j = gs.length - m
      · have e1 : qn = (qn - 1) + 1 := by omega
        have e2 : j + m * qn - 1 = (gs.length - 1) + m * (qn - 1) := by
          rw [e1, Nat.mul_succ]
          simp only [Nat.add_sub_cancel]
          omega
        have hall0 : d = pre gs (gs.length - m) + rr + per gs m * (qn : Int) := by omega
        rw [e2, off_turn hm0 hm1 (by omega) (by omega)]
        have hl := pre_mono R.okG (gs.length - 1) 1 (by omega)
        rw [show gs.length - 1 + 1 = gs.length by omega] at hl
        have e3 : ((qn - 1 : Nat) : Int) * per gs m + per gs m = per gs m * (qn : Int) := by
          rw [show ((qn - 1 : Nat) : Int) = (qn : Int) - 1 by omega, Int.sub_mul, Int.one_mul, emul]
          omega
        omega
      · have h1 := hall (j - 1) (by omega)
        rw [offsD (by omega)] at h1
        rw [show j + m * qn - 1 = (j - 1) + m * qn by omega, off_turn hm0 hm1 (by omega) (by omega)]
        omega
/-! ### first_from, attempt_at -/
/-- a distance that is answered -/
def HD (gs : List Int) (tl : Tl) (d : Int) : Prop := match tl with
  | .fin => True
  | .times b => d ≤ off gs (.times b) 1000
  | .rep _ => d < 2 ^ 200
def spFF (C : Addr) : Sp := fun vs H Q _ => ∃ (p g t o : Addr) (gs : List Int) (tl : Tl) (d : Int), vs = [.ref p, .int d] ∧ RuleAt C H p g t o gs tl ∧ HD gs tl d ∧ ∀ r H', Same H H' → FF gs tl d r → Q r H'
theorem scFF : FnScope ["self", "distance"] ["self", "distance"] (defScope s_Rule_first_from) := ⟨rfl, rfl, rfl, by decide +kernel, rfl, by decide +kernel, by decide +kernel⟩
theorem ok_ff {f C fi fL fG fW : Addr} {fd fdi fdL fdG fdW : FuncData} (F : Fun K "first_from" "Rule.first_from" s_Rule_first_from f fd) (T : Txt K mg C) (FI : Fun K "is_integer" "is_integer" s_is_integer fi fdi) (bI : Binds K fdi ["value"] []) (mI : mg "is_integer" = some (.ref fi))
    (FL : Fun K "_first_at_least" "_first_at_least" s_first_at_least fL fdL) (bL : Binds K fdL ["offsets", "distance"] []) (mL : mg "_first_at_least" = some (.ref fL))
    (GG : FnOk P w K mg base CX0 4 fG fdG ["self", "distance"] (spFg C)) (bG : Binds K fdG ["self", "distance"] []) (mG : Meth K C "_first_growing" fG)
    (GW : FnOk P w K mg base CX0 3 fW fdW ["self", "distance"] (spFrp C)) (bW : Binds K fdW ["self", "distance"] []) (mW : Meth K C "_first_repeated" fW) : FnOk P w K mg base CX0 5 f fd ["self", "distance"] (spFF C) := by
  have GI : FnOk P w K mg base CX0 1 fi fdi ["value"] spIsInt := ok_isInt FI T
  have GL : FnOk P w K mg base CX0 1 fL fdL ["offsets", "distance"] spFal := ok_fal FL
  refine F.ok scFF (fun vs H Q E h => ?_) (fun cdv A outer s H vs Q E hr h => ?_)
  · obtain ⟨p, g, t, o, gs, tl, d, rfl, _⟩ := h
    rfl
  · obtain ⟨p, g, t, o, gs, tl, d, rfl, R, hd, k⟩ := h
    have hr1 := hr.mono (show 1 ≤ 4 by decide)
    refine ⟨_, (pss_cons (ps_if (pt_not (pt_val (pe_call GI hr1 rfl mI FI.kp bI .nil pass0 (pa_cons (pv 1) pa_nil)))) (pss_one ps_never) pss_nil) (pss_cons (ps_if (pt_cmpR op_le (pv 1) (pe_ix ix_list (pe_fld (pv 0) rfl) (pe_un un_neg pe_int) (fun _ _ => rfl)) (nomark _)) (pss_one (ps_ret (pe_call GL hr1 rfl mL FL.kp bL .nil pass0 (pa_cons (pe_fld (pv 0) rfl) (pa_cons (pv 1) pa_nil))))) pss_nil) (pss_cons (ps_if (pt_cmpR op_eq (pe_ix ix_tup (pe_fld (pv 0) rfl) pe_int (fun _ _ => rfl)) pe_str (nomark _)) (pss_one (ps_ret pe_non)) pss_nil) (pss_cons (ps_if (pt_cmpR op_eq (pe_ix ix_tup (pe_fld (pv 0) rfl) pe_int (fun _ _ => rfl)) pe_str (nomark _)) (pss_one (ps_ret (pe_meth (pv 0) T.cl mG GG hr bG .nil pass0 (pa_cons (pv 1) pa_nil)))) pss_nil) (pss_one (ps_ret (pe_meth (pv 0) T.cl mW GW (hr.mono (by decide)) bW .nil pass0 (pa_cons (pv 1) pa_nil)))))))), ?_⟩
    obtain ⟨dx, hob⟩ := R.ob
    refine ⟨_, rfl, d, rfl, true, rfl, iteF ?_⟩
    refine ⟨_, rfl, ?_⟩
    refine rdLastO T R rfl ⟨_, _, rfl, rfl, _, rfl, ?_⟩
    by_cases hle : d ≤ pre gs gs.length
    · refine iteTb (decide_eq_true hle) ?_
      refine rdOc T R rfl ⟨_, rfl, o, offs gs, d, gs.length, rfl, R.ho, by rw [offs_len]; omega, by rw [offsD (Nat.le_refl _)]; exact hle, fun n hn hdn hall => ?_⟩
      rw [offsD hn] at hdn
      refine k _ H (Same.refl H) (.inr ⟨n, rfl, AttOk.low R.okG hn, by rw [off_low hn]; exact hdn, fun h0 => ?_⟩)
      have := hall (n - 1) (by omega)
      rw [offsD (by omega)] at this
      rw [off_low (by omega)]
      exact this
    · refine iteFb (decide_eq_false hle) ?_
      refine rdIs T R rfl ?_
      cases tl with
      | fin =>
        refine iteTb wEE ?_
        exact k _ H (Same.refl H) (.inl ⟨rfl, rfl, by omega⟩)
      | times b =>
        refine iteFb wTE ?_
        refine rdIs T R rfl ?_
        refine iteTb wTT ?_
        exact ⟨_, rfl, p, dx, _, rfl, hob, flds_no _ _ _ (by decide +kernel) (by decide +kernel) (by decide +kernel), _, rfl, p, g, t, o, gs, b, d, rfl, R, by omega, hd, k⟩
      | rep m =>
        refine iteFb wRE ?_
        refine rdIs T R rfl ?_
        refine iteFb wRT ?_
        exact ⟨_, rfl, p, dx, _, rfl, hob, flds_no _ _ _ (by decide +kernel) (by decide +kernel) (by decide +kernel), _, rfl, p, g, t, o, gs, m, d, rfl, R, by omega, hd, k⟩
end
end RS
namespace RS
open PySem L2
/-! ### the offsets that the law computes gap by gap -/
theorem gap_back {gs : List Int} {m : Nat} (h1 : 1 ≤ m) (h2 : m ≤ gs.length) {j : Nat} (h : gs.length ≤ j) : gapf gs (.rep m) j = gapf gs (.rep m) (j - m) := by
  rw [gap_rep h]
  by_cases e : gs.length ≤ j - m
  · rw [gap_rep e, show j - gs.length = (j - m - gs.length) + m * 1 by omega, Nat.add_mul_mod_self_left]
  · rw [gap_low (by omega), Nat.mod_eq_of_lt (by omega), show gs.length - m + (j - gs.length) = j - m by omega]
def manyN (gs : List Int) : Tl → Nat
  | .fin => gs.length + 1
  | _ => 60
theorem manyN_bd {gs : List Int} (h : gs.length ≤ 20) : ∀ tl : Tl, 1 ≤ manyN gs tl ∧ manyN gs tl ≤ 60
  | .fin => ⟨show 1 ≤ gs.length + 1 by omega, show gs.length + 1 ≤ 60 by omega⟩
  | .times _ => ⟨show 1 ≤ 60 by decide, Nat.le_refl 60⟩
  | .rep _ => ⟨show 1 ≤ 60 by decide, Nat.le_refl 60⟩
def gapL (gs : List Int) (tl : Tl) (n : Nat) : List Int := (List.range n).map (gapf gs tl)
def offL (gs : List Int) (tl : Tl) (n : Nat) : List Int := (List.range n).map (off gs tl)
theorem gapL_len (gs : List Int) (tl : Tl) (n : Nat) : (gapL gs tl n).length = n := by simp [gapL]
theorem offL_len (gs : List Int) (tl : Tl) (n : Nat) : (offL gs tl n).length = n := by simp [offL]
theorem gapL_get (gs : List Int) (tl : Tl) {n k : Nat} (h : k < n) : (gapL gs tl n)[k]? = some (gapf gs tl k) := by
  unfold gapL
  rw [List.getElem?_map, List.getElem?_range h]
  rfl
theorem offL_get (gs : List Int) (tl : Tl) {n k : Nat} (h : k < n) : (offL gs tl n)[k]? = some (off gs tl k) := by
  unfold offL
  rw [List.getElem?_map, List.getElem?_range h]
  rfl
theorem gapL_succ (gs : List Int) (tl : Tl) (n : Nat) : gapL gs tl (n + 1) = gapL gs tl n ++ [gapf gs tl n] := by
  unfold gapL
  rw [List.range_succ, List.map_append]
  rfl
theorem offL_succ (gs : List Int) (tl : Tl) (n : Nat) : offL gs tl (n + 1) = offL gs tl n ++ [off gs tl n] := by
  unfold offL
  rw [List.range_succ, List.map_append]
  rfl
theorem gapL_low (gs : List Int) (tl : Tl) : gapL gs tl gs.length = gs := by
  refine List.ext_getElem? fun i => ?_
  by_cases h : i < gs.length
  · rw [gapL_get gs tl h, gap_low h, getD_get h]
  · rw [List.getElem?_eq_none (by rw [gapL_len]; omega), List.getElem?_eq_none (by omega)]
theorem gapL_take (gs : List Int) (tl : Tl) {n k : Nat} (h : k ≤ n) : (gapL gs tl n).take k = gapL gs tl k := by
  unfold gapL
  rw [← List.map_take, List.take_range, Nat.min_eq_left h]
end RS
namespace RS
open PySem L2
/-! ### the least repetition among as few first attempts as possible -/
abbrev Pr := Int × Int
/-- a pair of attempts below a bound -/
def InL (L : Nat) (p : Pr) : Prop := ∃ i j : Nat, p = ((i : Int), (j : Int)) ∧ i < j ∧ j < L
def dif (os : List Int) (p : Pr) : Int := os.getD p.2.toNat 0 - os.getD p.1.toNat 0
def pLt (p q : Pr) : Prop := p.1 < q.1 ∨ p.1 = q.1 ∧ p.2 < q.2
def qLt (r s : Pr × Pr) : Prop := pLt r.1 s.1 ∨ r.1 = s.1 ∧ pLt r.2 s.2
theorem pLt_tri (p q : Pr) : pLt p q ∨ p = q ∨ pLt q p := by
  unfold pLt
  rcases Int.lt_trichotomy p.1 q.1 with h | h | h
  · exact .inl (.inl h)
  · rcases Int.lt_trichotomy p.2 q.2 with h2 | h2 | h2
    · exact .inl (.inr ⟨h, h2⟩)
    · exact .inr (.inl (Prod.ext h h2))
    · exact .inr (.inr (.inr ⟨h.symm, h2⟩))
  · exact .inr (.inr (.inl h))
theorem pLt_irr (p : Pr) : ¬ pLt p p := by unfold pLt; omega
theorem pLt_asym {p q : Pr} (h : pLt p q) : ¬ pLt q p := by unfold pLt at *; omega
theorem pLt_trans {p q r : Pr} (h : pLt p q) (h2 : pLt q r) : pLt p r := by unfold pLt at *; omega
theorem qLt_tri (r s : Pr × Pr) : qLt r s ∨ r = s ∨ qLt s r := by
  unfold qLt
  rcases pLt_tri r.1 s.1 with h | h | h
  · exact .inl (.inl h)
  · rcases pLt_tri r.2 s.2 with h2 | h2 | h2
    · exact .inl (.inr ⟨h, h2⟩)
    · exact .inr (.inl (Prod.ext h h2))
    · exact .inr (.inr (.inr ⟨h.symm, h2⟩))
  · exact .inr (.inr (.inl h))
/-- two pairs below a bound, the lesser first, with the same difference -/
def RepS (os : List Int) (L : Nat) (r : Pr × Pr) : Prop := InL L r.1 ∧ InL L r.2 ∧ pLt r.1 r.2 ∧ dif os r.1 = dif os r.2
/-- the least one, of as few first attempts as have one -/
def LeastR (os : List Int) (r : Option (Pr × Pr)) : Prop := match r with
  | none => ∀ s, ¬ RepS os os.length s
  | some r => ∃ L, L < os.length ∧ (∀ s, ¬ RepS os L s) ∧ RepS os (L + 1) r ∧ ∀ s, RepS os (L + 1) s → ¬ qLt s r
theorem InL.mono {L M : Nat} {p : Pr} (h : InL L p) (hm : L ≤ M) : InL M p := by
  obtain ⟨i, j, e, h1, h2⟩ := h
  exact ⟨i, j, e, h1, by omega⟩
theorem RepS.mono {os : List Int} {L M : Nat} {r : Pr × Pr} (h : RepS os L r) (hm : L ≤ M) : RepS os M r := ⟨h.1.mono hm, h.2.1.mono hm, h.2.2⟩
theorem LeastR.one {os : List Int} {r s : Option (Pr × Pr)} (h : LeastR os r) (h2 : LeastR os s) : r = s := by
  cases r with
  | none =>
    cases s with
    | none => rfl
    | some s =>
      obtain ⟨L, hL, _, h3, _⟩ := h2
      exact absurd (h3.mono (show L + 1 ≤ os.length by omega)) (h s)
  | some r =>
    obtain ⟨L, hL, hn, hr, hl⟩ := h
    cases s with
    | none => exact absurd (hr.mono (show L + 1 ≤ os.length by omega)) (h2 r)
    | some s =>
      obtain ⟨M, hM, hn2, hs, hl2⟩ := h2
      have e : L = M := by
        rcases Nat.lt_trichotomy L M with z | z | z
        · exact absurd (hr.mono (show L + 1 ≤ M by omega)) (hn2 r)
        · exact z
        · exact absurd (hs.mono (show M + 1 ≤ L by omega)) (hn s)
      subst e
      rcases qLt_tri r s with z | z | z
      · exact absurd z (hl2 r hr)
      · rw [z]
      · exact absurd z (hl s hs)
/-- the differences of the pairs below a bound are distinct -/
theorem no_rep {os : List Int} {L : Nat} (h : ∀ s, ¬ RepS os L s) {p q : Pr} (hp : InL L p) (hq : InL L q) (e : dif os p = dif os q) : p = q := by
  rcases pLt_tri p q with z | z | z
  · exact absurd ⟨hp, hq, z, e⟩ (h (p, q))
  · exact z
  · exact absurd ⟨hq, hp, z, e.symm⟩ (h (q, p))
/-- ascending -/
def Asc (os : List Int) : Prop := ∀ i j : Nat, i < j → j < os.length → os.getD i 0 < os.getD j 0
/-- the pairs that end at one attempt -/
theorem last_or {L : Nat} {p : Pr} (h : InL (L + 1) p) : InL L p ∨ ∃ k : Nat, k < L ∧ p = ((k : Int), (L : Int)) := by
  obtain ⟨i, j, e, h1, h2⟩ := h
  by_cases z : j < L
  · exact .inl ⟨i, j, e, h1, z⟩
  · have : j = L := by omega
    subst this
    exact .inr ⟨i, h1, e⟩
theorem last_inj {os : List Int} {L k k' : Nat} (ha : Asc os) (hL : L < os.length) (hk : k < L) (hk' : k' < L) (e : dif os ((k : Int), (L : Int)) = dif os ((k' : Int), (L : Int))) : k = k' := by
  unfold dif at e
  simp only [Int.toNat_natCast] at e
  rcases Nat.lt_trichotomy k k' with z | z | z
  · have := ha k k' z (by omega)
    omega
  · exact z
  · have := ha k' k z (by omega)
    omega
end RS
namespace RS
open PySem L2
section
variable {P : Program} {w : World} {K : PySem.W.Frag} {mg : Str → Option Value} {base : Heap}
/-! ### the law's offsets, gap by gap -/
def manyC (gs : List Int) (n : Nat) : Tl → Nat
  | .fin => min n (gs.length + 1)
  | _ => n
def spOfs : Sp := fun vs H Q _ => ∃ (g t : Addr) (gs : List Int) (tl : Tl) (n : Nat), vs = [.ref g, .ref t, .int (n : Int)] ∧ 1 ≤ n ∧ n ≤ 500 ∧ H g = some (.lst (gs.map V.int)) ∧ H t = some (.tup tl.vs) ∧ GapsOk gs ∧ TlOk gs.length tl ∧
  ∀ p H', H p = none → Same H H' → H' p = some (.lst ((offL gs tl (manyC gs n tl)).map V.int)) → Q (.ref p) H'
theorem scOfs : FnScope ["_law_gaps", "_law_tail_here", "_law_count", "_law_result", "_law_listed", "_law_more"] ["_law_gaps", "_law_tail_here", "_law_count"] (defScope s_law_offsets) := ⟨rfl, rfl, rfl, by decide +kernel, rfl, by decide +kernel, by decide +kernel⟩
theorem ok_ofs {f C : Addr} {fd : FuncData} (F : Fun K "_law_offsets" "_law_offsets" s_law_offsets f fd) (T : Txt K mg C) : FnOk P w K mg base CX0 1 f fd ["_law_gaps", "_law_tail_here", "_law_count"] spOfs := by
  refine F.ok scOfs (fun vs H Q E h => ?_) (fun cdv A outer s H vs Q E hr h => ?_)
  · obtain ⟨g, t, gs, tl, n, rfl, _⟩ := h
    rfl
  · obtain ⟨g, t, gs, tl, n, rfl, hn1, hn5, hg, ht, okG, okT, k⟩ := h
    have hlen := okG.1
    refine ⟨_, (pss_cons (ps_set (i := 3) scOfs.nd rfl (Or.inl rfl) (pe_lst (pa_cons pe_int pa_nil))) (pss_cons (ps_set (i := 4) scOfs.nd rfl (Or.inl rfl) (pe_callTy call_list_of (by rfl) T.list (by decide +kernel) (pa_cons (pv 0) pa_nil))) (pss_cons (ps_while PassesOwn.never (PW.pt (pw_and (pt_cmpR op_lt (pe_callB call_len_seq (by rfl) T.len (by decide +kernel) (pa_cons (pv 3) pa_nil)) (pv 2) (nomark _)) (pw_and1 (PW.pt (pw_or (pt_cmpR op_le (pe_callB call_len_seq (by rfl) T.len (by decide +kernel) (pa_cons (pv 3) pa_nil)) (pe_callB call_len_seq (by rfl) T.len (by decide +kernel) (pa_cons (pv 0) pa_nil)) (nomark _)) (pw_or1 (pt_cmpR op_ne (pe_ix ix_tup (pv 1) pe_int (fun _ _ => rfl)) pe_str (nomark _))))))))
        (Evl.pss_cut (ps_if (pt_cmpR op_gt (pe_callB call_len_seq (by rfl) T.len (by decide +kernel) (pa_cons (pv 3) pa_nil)) (pe_callB call_len_seq (by rfl) T.len (by decide +kernel) (pa_cons (pv 4) pa_nil)) (nomark _)) (pss_cons (ps_set (i := 5) scOfs.nd rfl (Or.inl rfl) (pe_ifExp (pt_cmpR op_eq (pe_ix ix_tup (pv 1) pe_int (fun _ _ => rfl)) pe_str (nomark _)) (pe_op op_mul (pe_ix ix_list (pv 4) (pe_un un_neg pe_int) (fun _ _ => rfl)) (pe_ix ix_tup (pv 1) pe_int (fun _ _ => rfl))) (pe_ix ix_list (pv 4) (pe_un un_neg (pe_ix ix_tup (pv 1) pe_int (fun _ _ => rfl))) (fun _ _ => rfl)))) (pss_one (ps_expr (pe_bm PySem.F.plainAttrs_list PySem.F.slot_list_append PySem.F.type_list_append mt_append (pv 4) (pa_cons (pv 5) pa_nil))))) pss_nil) (pss_one (ps_expr (pe_bm PySem.F.plainAttrs_list PySem.F.slot_list_append PySem.F.type_list_append mt_append (pv 3) (pa_cons (pe_op op_add (pe_ix ix_list (pv 3) (pe_un un_neg pe_int) (fun _ _ => rfl)) (pe_ix ix_list (pv 4) (pe_op op_sub (pe_callB call_len_seq (by rfl) T.len (by decide +kernel) (pa_cons (pv 3) pa_nil)) pe_int) (fun _ _ => rfl))) pa_nil)))))) (pss_one (ps_ret (pv 3)))))), ?_⟩
    refine ⟨by show 1 ≤ sizeLine; decide, fun l hl => ?_⟩
    have S1 : Same H (upd H l (.lst [.int 0])) := same_new hl
    refine ⟨_, rfl, g, _, rfl, .inl (SqL.of (S1 _ _ hg)), fun sp hsp => ?_⟩
    have S2 : Same (upd H l (.lst [.int 0])) (upd (upd H l (.lst [.int 0])) sp (.lst (gs.map V.int))) := same_new hsp
    have hspH : H sp = none := S1.free hsp
    have nls : l ≠ sp := ne_of_none upd_same hsp
    refine ⟨fun m σ H' => ∃ j : Nat, m = n - j ∧ 1 ≤ j ∧ j ≤ n ∧ (tl = .fin → j ≤ gs.length + 1) ∧ (∃ v, σ = [some (.ref g), some (.ref t), some (.int (n : Int)), some (.ref l), some (.ref sp), v]) ∧ Same H H' ∧ H' l = some (.lst ((offL gs tl j).map V.int)) ∧ H' sp = some (.lst ((gapL gs tl (max gs.length (j - 1))).map V.int)), ⟨n - 1, 1, rfl, Nat.le_refl _, hn1, fun _ => by omega, ⟨none, rfl⟩, S1.trans S2, ?_, ?_⟩, ?_⟩
    · rw [S2 _ _ upd_same]
      show _ = some (HO.lst [V.int (off gs tl 0)])
      rw [off_low (Nat.zero_le _)]
      rfl
    · rw [Nat.max_eq_left (by omega), gapL_low]
      exact upd_same
    rintro m σ H' ⟨j, rfl, hj1, hjn, hjf, ⟨v5, rfl⟩, S, hr', hs'⟩
    have zl : ((offL gs tl j).map V.int).length = j := by rw [List.length_map, offL_len]
    have zs : ((gapL gs tl (max gs.length (j - 1))).map V.int).length = max gs.length (j - 1) := by rw [List.length_map, gapL_len]
    have fin : ∀ D' : Ends, D'.rt = Q → j = manyC gs n tl → tRet (tVar 3) D' [some (.ref g), some (.ref t), some (.int (n : Int)), some (.ref l), some (.ref sp), v5] H' := by
      intro D' hD' e
      refine ⟨_, rfl, ?_⟩
      rw [hD']
      rw [e] at hr'
      exact k l H' hl S hr'
    refine ⟨_, rfl, l, _, rfl, .inl (SqL.of hr'), _, rfl, _, _, rfl, rfl, _, rfl, ?_⟩
    rw [zl]
    by_cases hlt : j < n
    · refine iteTb (decide_eq_true (by omega)) ?_
      refine ⟨_, rfl, l, _, rfl, .inl (SqL.of hr'), _, rfl, g, _, rfl, .inl (SqL.of (S _ _ hg)), _, _, rfl, rfl, _, rfl, ?_⟩
      rw [zl, List.length_map]
      by_cases hle : j ≤ gs.length
      · refine iteTb (decide_eq_true (by omega)) (iteT ?_)
        refine ⟨fun σ' H2 => (∃ v, σ' = [some (.ref g), some (.ref t), some (.int (n : Int)), some (.ref l), some (.ref sp), v]) ∧ Same H H2 ∧ H2 l = some (.lst ((offL gs tl (j + 1)).map V.int)) ∧ H2 sp = some (.lst ((gapL gs tl (max gs.length j)).map V.int)), ?_, ?_⟩
        · rintro σ' H2 ⟨⟨v, rfl⟩, S2, h1, h2⟩
          exact ⟨n - (j + 1), by omega, j + 1, rfl, by omega, by omega, fun _ => by omega, ⟨v, rfl⟩, S2, h1, by rw [show j + 1 - 1 = j by omega]; exact h2⟩
        · refine ⟨fun σ' H2 => ∃ v, σ' = [some (.ref g), some (.ref t), some (.int (n : Int)), some (.ref l), some (.ref sp), v] ∧ Same H H2 ∧ H2 l = some (.lst ((offL gs tl j).map V.int)) ∧ H2 sp = some (.lst ((gapL gs tl (max gs.length j)).map V.int)), ?_, ?_⟩
          · refine ⟨_, rfl, l, _, rfl, .inl (SqL.of hr'), _, rfl, sp, _, rfl, .inl (SqL.of hs'), _, _, rfl, rfl, _, rfl, ?_⟩
            rw [zl, zs]
            refine iteFb (decide_eq_false (by omega)) ⟨v5, rfl, S, hr', ?_⟩
            rw [show max gs.length j = max gs.length (j - 1) by omega]
            exact hs'
          · rintro _ H2 ⟨v, rfl, S3, h1, h2⟩
            have hf : tl = .fin → j ≤ gs.length := fun _ => hle
            refine ⟨_, rfl, .inl ⟨rfl, _, SqL.of h1⟩, _, rfl, _, rfl, l, _, _, _, rfl, rfl, SqL.of h1, at_back1 (v := .int (off gs tl (j - 1))) (by rw [zl]; omega) (by rw [zl, List.getElem?_map, offL_get gs tl (by omega)]; rfl), ?_⟩
            refine ⟨_, rfl, _, rfl, l, _, rfl, .inl (SqL.of h1), _, _, rfl, rfl, sp, _, _, .int (gapf gs tl (j - 1)), rfl, rfl, SqL.of h2, ?_, _, _, rfl, rfl, l, _, _, rfl, rfl, h1, by rw [zl]; exact small1000 (by omega), ⟨v, rfl⟩, fun b o e => ?_, ?_, ?_⟩
            · rw [zl, show ((j : Nat) : Int) - 1 = ((j - 1 : Nat) : Int) by omega]
              exact at_map (gapL_get gs tl (by omega))
            · rw [upd_ne (ne_of_none e hl)]
              exact S3 b o e
            · rw [upd_same, offL_succ, List.map_append]
              show some (HO.lst (_ ++ [V.int (off gs tl (j - 1) + gapf gs tl (j - 1))])) = some (HO.lst (_ ++ [V.int (off gs tl j)]))
              rw [← off_succ okT (n := j - 1) (fun e => by have := hf e; omega), show j - 1 + 1 = j by omega]
            · rw [upd_ne nls.symm]
              exact h2
      · refine iteFb (decide_eq_false (by omega)) ?_
        refine ⟨_, rfl, t, _, _, _, rfl, rfl, SqT.of (S _ _ ht), tl.at0, rfl, _, rfl, ?_⟩
        by_cases htf : tl = .fin
        · subst htf
          refine iteFb (congrArg not wEE) ?_
          refine fin _ rfl ?_
          have := hjf rfl
          show j = min n (gs.length + 1)
          omega
        have hwd : (!decide (V.str tl.word = V.str "end")) = true := by
          cases tl with
          | fin => exact absurd rfl htf
          | times b => exact congrArg not wTE
          | rep m => exact congrArg not wRE
        refine iteTb hwd ?_
        refine ⟨fun σ' H2 => (∃ v, σ' = [some (.ref g), some (.ref t), some (.int (n : Int)), some (.ref l), some (.ref sp), v]) ∧ Same H H2 ∧ H2 l = some (.lst ((offL gs tl (j + 1)).map V.int)) ∧ H2 sp = some (.lst ((gapL gs tl (max gs.length j)).map V.int)), ?_, ?_⟩
        · rintro σ' H2 ⟨⟨v, rfl⟩, S2, h1, h2⟩
          exact ⟨n - (j + 1), by omega, j + 1, rfl, by omega, by omega, fun e => absurd e htf, ⟨v, rfl⟩, S2, h1, by rw [show j + 1 - 1 = j by omega]; exact h2⟩
        · refine ⟨fun σ' H2 => ∃ v, σ' = [some (.ref g), some (.ref t), some (.int (n : Int)), some (.ref l), some (.ref sp), v] ∧ Same H H2 ∧ H2 l = some (.lst ((offL gs tl j).map V.int)) ∧ H2 sp = some (.lst ((gapL gs tl (max gs.length j)).map V.int)), ?_, ?_⟩
          · refine ⟨_, rfl, l, _, rfl, .inl (SqL.of hr'), _, rfl, sp, _, rfl, .inl (SqL.of hs'), _, _, rfl, rfl, _, rfl, ?_⟩
            rw [zl, zs]
            have hmx : max gs.length (j - 1) = j - 1 := by omega
            rw [hmx] at hs' zs ⊢
            have hmj : max gs.length j = (j - 1) + 1 := by omega
            rw [hmj]
            refine iteTb (decide_eq_true (by omega)) ?_
            refine ⟨_, rfl, t, _, _, _, rfl, rfl, SqT.of (S _ _ ht), tl.at0, rfl, _, rfl, ?_⟩
            cases tl with
            | fin => exact absurd rfl htf
            | times b =>
              have hl0 : 0 < gs.length := okT.1
              refine iteTb wTT ?_
              refine ⟨_, rfl, _, rfl, sp, _, _, _, rfl, rfl, SqL.of hs', at_back1 (v := .int (gapf gs (.times b) (j - 1 - 1))) (by rw [zs]; omega) (by rw [zs, List.getElem?_map, gapL_get gs _ (by omega)]; rfl), _, rfl, t, _, _, _, rfl, rfl, SqT.of (S _ _ ht), atI_nat (j := 1) rfl, _, _, rfl, rfl, .inr ⟨by have := okT.2.1; omega, by have := okT.2.2; omega⟩, ?_⟩
              refine ⟨_, rfl, .inl ⟨rfl, _, SqL.of hs'⟩, _, rfl, sp, _, _, rfl, rfl, hs', by rw [zs]; exact small1000 (by omega), ⟨_, rfl, fun b' o' e => ?_, ?_, ?_⟩⟩
              · rw [upd_ne (ne_of_none e hspH)]
                exact S b' o' e
              · rw [upd_ne nls]
                exact hr'
              · rw [upd_same, gapL_succ, List.map_append, gap_grow (n := j - 1) hl0 (by omega)]
                rfl
            | rep m =>
              have hn0 : 1 ≤ m := okT.1
              have hn1 : m ≤ gs.length := okT.2
              refine iteFb wRT ?_
              refine ⟨_, rfl, _, rfl, t, _, _, _, rfl, rfl, SqT.of (S _ _ ht), atI_nat (j := 1) rfl, _, rfl, sp, _, _, _, rfl, rfl, SqL.of hs', at_back (v := .int (gapf gs (.rep m) (j - 1 - m))) (by omega) (by rw [zs]; omega) (by rw [zs, List.getElem?_map, gapL_get gs _ (by omega)]; rfl), ?_⟩
              refine ⟨_, rfl, .inl ⟨rfl, _, SqL.of hs'⟩, _, rfl, sp, _, _, rfl, rfl, hs', by rw [zs]; exact small1000 (by omega), ⟨_, rfl, fun b' o' e => ?_, ?_, ?_⟩⟩
              · rw [upd_ne (ne_of_none e hspH)]
                exact S b' o' e
              · rw [upd_ne nls]
                exact hr'
              · rw [upd_same, gapL_succ, List.map_append, gap_back (j := j - 1) hn0 hn1 (by omega)]
                rfl
          · rintro _ H2 ⟨v, rfl, S3, h1, h2⟩
            have hf : tl = .fin → j ≤ gs.length := fun e => absurd e htf
            refine ⟨_, rfl, .inl ⟨rfl, _, SqL.of h1⟩, _, rfl, _, rfl, l, _, _, _, rfl, rfl, SqL.of h1, at_back1 (v := .int (off gs tl (j - 1))) (by rw [zl]; omega) (by rw [zl, List.getElem?_map, offL_get gs tl (by omega)]; rfl), ?_⟩
            refine ⟨_, rfl, _, rfl, l, _, rfl, .inl (SqL.of h1), _, _, rfl, rfl, sp, _, _, .int (gapf gs tl (j - 1)), rfl, rfl, SqL.of h2, ?_, _, _, rfl, rfl, l, _, _, rfl, rfl, h1, by rw [zl]; exact small1000 (by omega), ⟨v, rfl⟩, fun b o e => ?_, ?_, ?_⟩
            · rw [zl, show ((j : Nat) : Int) - 1 = ((j - 1 : Nat) : Int) by omega]
              exact at_map (gapL_get gs tl (by omega))
            · rw [upd_ne (ne_of_none e hl)]
              exact S3 b o e
            · rw [upd_same, offL_succ, List.map_append]
              show some (HO.lst (_ ++ [V.int (off gs tl (j - 1) + gapf gs tl (j - 1))])) = some (HO.lst (_ ++ [V.int (off gs tl j)]))
              rw [← off_succ okT (n := j - 1) (fun e => by have := hf e; omega), show j - 1 + 1 = j by omega]
            · rw [upd_ne nls.symm]
              exact h2
    · refine iteFb (decide_eq_false (by omega)) (iteF ?_)
      refine fin _ rfl ?_
      cases tl with
      | fin => have := hjf rfl; show j = min n (gs.length + 1); omega
      | times b => show j = n; omega
      | rep m => show j = n; omega
end
end RS
namespace RS
open PySem L2
/-! ### how many attempts lie before a distance -/
/-- the attempts below a distance are the first n -/
structure CntB (gs : List Int) (tl : Tl) (d : Int) (n : Nat) : Prop where
  low : ∀ i, i < n → AttOk gs tl i ∧ off gs tl i < d
  high : ∀ i, n ≤ i → AttOk gs tl i → d ≤ off gs tl i
theorem CntB.one {gs : List Int} {tl : Tl} {d : Int} {n m : Nat} (a : CntB gs tl d n) (b : CntB gs tl d m) : n = m := by
  rcases Nat.lt_trichotomy n m with h | h | h
  · obtain ⟨h1, h2⟩ := b.low n h
    have := a.high n (Nat.le_refl _) h1
    omega
  · exact h
  · obtain ⟨h1, h2⟩ := a.low m h
    have := b.high m (Nat.le_refl _) h1
    omega
theorem AttOk.le {gs : List Int} {tl : Tl} {i n : Nat} (h : AttOk gs tl n) (hi : i ≤ n) : AttOk gs tl i := by
  cases tl with
  | fin => exact Nat.le_trans hi h
  | times b => exact Nat.le_trans hi h
  | rep m => trivial
theorem CntB.mono {gs : List Int} {tl : Tl} {d e : Int} {n m : Nat} (a : CntB gs tl d n) (b : CntB gs tl e m) (h : d ≤ e) : n ≤ m := by
  rcases Nat.lt_or_ge m n with z | z
  · obtain ⟨h1, h2⟩ := a.low m z
    have := b.high m (Nat.le_refl _) h1
    omega
  · exact z
theorem off_le {gs : List Int} {tl : Tl} (okG : GapsOk gs) (okT : TlOk gs.length tl) {i j : Nat} (h : i ≤ j) (hj : AttOk gs tl j) : off gs tl i ≤ off gs tl j := by
  rcases Nat.lt_or_ge i j with z | z
  · exact Int.le_of_lt (off_lt okG okT z hj.fin)
  · have : i = j := by omega
    subst this
    exact Int.le_refl _
theorem cnt_of {gs : List Int} {tl : Tl} (okG : GapsOk gs) (okT : TlOk gs.length tl) {d : Int} {n : Nat} (h1 : AttOk gs tl n) (h2 : d ≤ off gs tl n) (h3 : 0 < n → off gs tl (n - 1) < d) : CntB gs tl d n := by
  refine ⟨fun i hi => ⟨h1.le (by omega), ?_⟩, fun i hi ho => ?_⟩
  · have a := h3 (by omega)
    have b := off_le okG okT (show i ≤ n - 1 by omega) (h1.le (by omega))
    omega
  · have := off_le okG okT hi ho
    omega
theorem cnt_fin {gs : List Int} (okG : GapsOk gs) {d : Int} (h : pre gs gs.length < d) : CntB gs .fin d (gs.length + 1) := by
  refine ⟨fun i hi => ⟨show i ≤ gs.length by omega, ?_⟩, fun i hi ho => ?_⟩
  · have := off_le (tl := .fin) okG trivial (show i ≤ gs.length by omega) (show gs.length ≤ gs.length from Nat.le_refl _)
    rw [off_low (Nat.le_refl gs.length)] at this
    omega
  · have ho : i ≤ gs.length := ho
    omega
section
variable {P : Program} {w : World} {K : PySem.W.Frag} {mg : Str → Option Value} {base : Heap}
def spAb (C : Addr) : Sp := fun vs H Q _ => ∃ (p g t o : Addr) (gs : List Int) (tl : Tl) (d : Int), vs = [.ref p, .int d] ∧ RuleAt C H p g t o gs tl ∧ HD gs tl d ∧ ∀ n H', Same H H' → CntB gs tl d n → Q (.int (n : Int)) H'
theorem scAb : FnScope ["rule", "distance", "attempt"] ["rule", "distance"] (defScope s_attempts_before) := ⟨rfl, rfl, rfl, by decide +kernel, rfl, by decide +kernel, by decide +kernel⟩
theorem ok_ab {f C fF fA : Addr} {fd fdF fdA : FuncData} (F : Fun K "attempts_before" "attempts_before" s_attempts_before f fd) (T : Txt K mg C) (GF : FnOk P w K mg base CX0 5 fF fdF ["self", "distance"] (spFF C)) (bF : Binds K fdF ["self", "distance"] []) (mF : Meth K C "first_from" fF)
    (GA : FnOk P w K mg base CX0 1 fA fdA ["self"] (spAtt C)) (bA : Binds K fdA ["self"] []) (mA : Meth K C "attempts" fA) : FnOk P w K mg base CX0 6 f fd ["rule", "distance"] (spAb C) := by
  refine F.ok scAb (fun vs H Q E h => ?_) (fun cdv A outer s H vs Q E hr h => ?_)
  · obtain ⟨p, g, t, o, gs, tl, d, rfl, _⟩ := h
    rfl
  · obtain ⟨p, g, t, o, gs, tl, d, rfl, R, hd, k⟩ := h
    refine ⟨_, (pss_cons (ps_set (i := 2) scAb.nd rfl (Or.inl rfl) (pe_meth (pv 0) T.cl mF GF hr bF .nil pass0 (pa_cons (pv 1) pa_nil))) (pss_cons (ps_if (pt_cmpR op_isN (pv 2) pe_non (nomark _)) (pss_one (ps_ret (pe_meth0 (pv 0) T.cl mA GA (hr.mono (by decide)) bA .nil pass0))) pss_nil) (pss_one (ps_ret (pv 2))))), ?_⟩
    obtain ⟨dx, hob⟩ := R.ob
    refine ⟨_, rfl, p, dx, _, rfl, hob, flds_no _ _ _ (by decide +kernel) (by decide +kernel) (by decide +kernel), _, rfl, p, g, t, o, gs, tl, d, rfl, R, hd, fun r H1 S1 hf => ?_⟩
    refine ⟨_, rfl, rfl, _, rfl, ?_⟩
    rcases hf with ⟨rfl, rfl, hlt⟩ | ⟨n, rfl, hn, h1, h2⟩
    · refine iteTb (decide_eq_true rfl) ?_
      have R1 := R.mono S1
      obtain ⟨dx1, hob1⟩ := R1.ob
      refine ⟨_, rfl, p, dx1, _, rfl, hob1, flds_no _ _ _ (by decide +kernel) (by decide +kernel) (by decide +kernel), p, g, t, o, gs, .fin, rfl, R1, ?_⟩
      exact k (gs.length + 1) H1 S1 (cnt_fin R.okG hlt)
    · refine iteFb (decide_eq_false fun e => nomatch e) ?_
      exact ⟨_, rfl, k n H1 S1 (cnt_of R.okG R.okT hn h1 h2)⟩
/-! ### Rule.offsets_between -/
/-- the offsets of the attempts from a on, so many -/
def offR (gs : List Int) (tl : Tl) (a n : Nat) : List Int := (List.range n).map fun i => off gs tl (a + i)
def spOb2 (C : Addr) : Sp := fun vs H Q _ => ∃ (p g t o : Addr) (gs : List Int) (tl : Tl) (a n : Nat), vs = [.ref p, .int (a : Int), .int ((a + n : Nat) : Int)] ∧ RuleAt C H p g t o gs tl ∧ n ≤ 1000 ∧ a ≤ 1000000 ∧ (∀ i, i < n → AttOk gs tl (a + i)) ∧
  ∀ q H', H q = none → Same H H' → H' q = some (.lst ((offR gs tl a n).map V.int)) → Q (.ref q) H'
def obN : List Str := ["self", "first", "after", "attempt"]
theorem scOb2 : FnScope obN ["self", "first", "after"] (defScope s_Rule_offsets_between) := ⟨rfl, rfl, rfl, by decide +kernel, rfl, by decide +kernel, by decide +kernel⟩
theorem ok_ob2 {f C fO : Addr} {fd fdO : FuncData} (F : Fun K "offsets_between" "Rule.offsets_between" s_Rule_offsets_between f fd) (T : Txt K mg C)
    (GO : FnOk P w K mg base CX0 3 fO fdO ["self", "attempt"] (spOff C)) (bO : Binds K fdO ["self", "attempt"] []) (mO : Meth K C "_offset_of" fO) : FnOk P w K mg base CX0 4 f fd ["self", "first", "after"] (spOb2 C) := by
  refine F.ok scOb2 (fun vs H Q E h => ?_) (fun cdv A outer s H vs Q E hr h => ?_)
  · obtain ⟨p, g, t, o, gs, tl, a, n, rfl, _⟩ := h
    rfl
  · obtain ⟨p, g, t, o, gs, tl, a, n, rfl, R, hn, ha, hat, k⟩ := h
    refine ⟨_, (pss_one (ps_ret (pe_lc (own := [("attempt", 3)]) (g := gName 3) (tt := tYes) rfl scOb2.nd (pi_range2 rfl T.range (pa_cons (pv 1) (pa_cons (pv 2) pa_nil))) (blkOk_by (own := [("attempt", 3)]) (N := obN) (sc := (defScope s_Rule_offsets_between)) (by decide +kernel)) (fun _ _ _ _ _ => (pg_name (i := 3) scOb2.nd rfl (Or.inl rfl))) (fun _ _ _ _ _ => pts_nil) (fun _ _ _ _ _ => (pe_meth (pv 0) T.cl mO GO hr bO .nil pass0 (pa_cons (pv 3) pa_nil)))))), ?_⟩
    have en : (((a + n : Nat) : Int) - (a : Int)).toNat = n := by omega
    refine ⟨_, rfl, _, rfl, _, _, rfl, ⟨by omega, by omega, by omega, by omega⟩, fun D hD => ?_⟩
    refine lc_mapR (lo := (a : Int)) (n := (((a + n : Nat) : Int) - (a : Int)).toNat) ((offR gs tl a n).map V.int) hD (by rw [List.length_map, en]; unfold offR; simp) (by omega) (fun i y H2 Q2 hi hy S2 q => ?_) (fun H2 S2 h2 => k D H2 hD S2 h2)
    rw [en] at hi
    have ey : y = .int (off gs tl (a + i)) := by
      unfold offR at hy
      rw [List.map_map, List.getElem?_map, List.getElem?_range hi] at hy
      exact (Option.some.inj hy).symm
    subst ey
    have R2 := R.mono S2
    obtain ⟨dx, hob⟩ := R2.ob
    have ei : (a : Int) + (i : Int) = ((a + i : Nat) : Int) := by omega
    refine ⟨rfl, ?_⟩
    refine ⟨_, rfl, p, dx, _, rfl, hob, flds_no _ _ _ (by decide +kernel) (by decide +kernel) (by decide +kernel), _, rfl, p, g, t, o, gs, tl, a + i, by rw [ei]; rfl, R2, hat i hi, fun H3 S3 => q H3 S3⟩
end
end RS
namespace RS
open PySem L2
/-- tuples of two numbers -/
def TupsI (H : Hp) (rs : List Addr) (ps : List (Int × Int)) : Prop := rs.length = ps.length ∧ ∀ (j : Nat) (p : Int × Int), ps[j]? = some p → ∃ r, rs[j]? = some r ∧ H r = some (.tup [.int p.1, .int p.2])
theorem TupsI.kx {H H' : Hp} {rs : List Addr} {ps : List (Int × Int)} (t : TupsI H rs ps) (h : ∀ (r : Addr) (xs : List V), H r = some (.tup xs) → H' r = some (.tup xs)) : TupsI H' rs ps :=
  ⟨t.1, fun j p e => let ⟨r, a, b⟩ := t.2 j p e; ⟨r, a, h _ _ b⟩⟩
theorem TupsI.snoc {H : Hp} {rs : List Addr} {ps : List (Int × Int)} {r : Addr} {a b : Int} (t : TupsI H rs ps) (h : H r = some (.tup [.int a, .int b])) : TupsI H (rs ++ [r]) (ps ++ [(a, b)]) := by
  refine ⟨by rw [List.length_append, List.length_append, t.1]; rfl, fun j p e => ?_⟩
  by_cases hj : j < ps.length
  · rw [List.getElem?_append_left hj] at e
    obtain ⟨r', e1, e2⟩ := t.2 j p e
    exact ⟨r', by rw [List.getElem?_append_left (by rw [t.1]; exact hj)]; exact e1, e2⟩
  · have hl := (List.getElem?_eq_some_iff.mp e).1
    rw [List.length_append, List.length_singleton] at hl
    have ej : j = ps.length := by omega
    subst ej
    rw [List.getElem?_append_right (Nat.le_refl _), Nat.sub_self] at e
    cases e
    exact ⟨r, by rw [← t.1, List.getElem?_append_right (Nat.le_refl _), Nat.sub_self]; rfl, h⟩
theorem TupsI.nil {H : Hp} : TupsI H [] [] := ⟨rfl, fun _ _ e => nomatch e⟩
theorem TupsI.get {H : Hp} {rs : List Addr} {ps : List (Int × Int)} (t : TupsI H rs ps) {i : Nat} {x : V} (h : (rs.map V.ref)[i]? = some x) : ∃ r p, x = .ref r ∧ ps[i]? = some p ∧ H r = some (.tup [.int p.1, .int p.2]) := by
  rw [List.getElem?_map] at h
  cases e : rs[i]? with
  | none => rw [e] at h; cases h
  | some r =>
    rw [e] at h
    cases h
    have hl := (List.getElem?_eq_some_iff.mp e).1
    have hp : ps[i]? = some (ps[i]'(by rw [← t.1]; exact hl)) := List.getElem?_eq_getElem _
    obtain ⟨r', e1, e2⟩ := t.2 i _ hp
    rw [e] at e1
    cases e1
    exact ⟨r, _, rfl, hp, e2⟩
/-! ### lists of pairs as data -/
def winD (ws : List (Int × Int)) : List PyData := ws.map fun p => .tuple [.int p.1, .int p.2]
theorem win_can : ∀ ws : List (Int × Int), PyData.canLayAll0 (winD ws) = true
  | [] => rfl
  | p :: r => by
    show (PyData.canLay0 _ && PyData.canLayAll0 (winD r)) = true
    rw [win_can r]
    rfl
theorem win_depth : ∀ ws : List (Int × Int), PyData.depthAll (winD ws) ≤ 1
  | [] => by decide
  | p :: r => by
    have := win_depth r
    show max 1 (PyData.depthAll (winD r)) ≤ 1
    omega
theorem win_shaped (ws : List (Int × Int)) : SeqAt.shaped (.list (winD ws)) = true := by
  have h1 := win_can ws
  have h2 := win_depth ws
  show (PyData.canLayAll0 (winD ws) && decide (PyData.depthAll (winD ws) + 1 ≤ 64)) = true
  rw [h1, decide_eq_true (by omega)]
  rfl
theorem win_eqv : ∀ ws vs : List (Int × Int), PyData.eqvAll (winD ws) (winD vs) = decide (ws = vs)
  | [], [] => rfl
  | [], _ :: _ => rfl
  | _ :: _, [] => rfl
  | (a, b) :: r, (c, d) :: s => by
    show PyData.eqvAll (.tuple [.int a, .int b] :: winD r) (.tuple [.int c, .int d] :: winD s) = _
    have := win_eqv r s
    simp only [PyData.eqvAll, PyData.eqv, this]
    by_cases h1 : a = c <;> by_cases h2 : b = d <;> by_cases h3 : r = s <;> simp [h1, h2, h3]
theorem win_eqvL (ws vs : List (Int × Int)) : PyData.eqv (.list (winD ws)) (.list (winD vs)) = decide (ws = vs) := win_eqv ws vs
theorem tupsI_dp {K : PySem.W.Frag} {H : Hp} : ∀ {rs : List Addr} {ps : List (Int × Int)}, TupsI H rs ps → DpAll K H (rs.map V.ref) (winD ps)
  | [], [], _ => .nil
  | [], _ :: _, t => nomatch t.1
  | _ :: _, [], t => nomatch t.1
  | r :: rs, p :: ps, t => by
    obtain ⟨r', e1, e2⟩ := t.2 0 p rfl
    cases (Option.some.inj e1 : r = r')
    exact .cons (.tup (SqT.of e2) (.cons (.int _) (.cons (.int _) .nil))) (tupsI_dp ⟨Nat.succ.inj t.1, fun j q e => t.2 (j + 1) q e⟩)
theorem Src.nt {H : Hp} {a r : Addr} {b : Nat} {xs : List V} (S : Src H a b) (h : H r = some (.tup xs)) : r ≠ a := by
  obtain ⟨s0, s1, s2, h1, _⟩ := S.ex
  exact ne_of h h1 (by intro z; cases z)
theorem TupsI.kxs {H H' : Hp} {rs : List Addr} {ps : List (Int × Int)} {a : Addr} {b : Nat} (t : TupsI H rs ps) (S : Src H a b) (kx : Kx a H H') : TupsI H' rs ps := t.kx fun r xs e => kx r _ (S.nt e) e
theorem TupsI.same {H H' : Hp} {rs : List Addr} {ps : List (Int × Int)} (t : TupsI H rs ps) (S : Same H H') : TupsI H' rs ps := t.kx fun r xs e => S r _ e
end RS
namespace RS
open PySem L2
/-! ### a dict of whole numbers by whole numbers -/
def kvI (ks : List Int) (lv : Int → Int) : List (Key × V) := ks.map fun r => ((Sum.inl r : Key), V.int (lv r))
theorem kvI_val (lv : Int → Int) (r : Int) : ∀ ks : List Int, valV (kvI ks lv) (Sum.inl r) = if r ∈ ks then some (.int (lv r)) else none
  | [] => rfl
  | x :: ks => by
    have ih := kvI_val lv r ks
    show valV (((Sum.inl x : Key), V.int (lv x)) :: kvI ks lv) (Sum.inl r) = _
    by_cases e : x = r
    · subst e
      rw [valV_pos rfl, if_pos (List.mem_cons_self ..)]
    · rw [valV_neg (fun z => e (Sum.inl.inj z)), ih]
      by_cases h : r ∈ ks
      · rw [if_pos h, if_pos (List.mem_cons_of_mem _ h)]
      · rw [if_neg h, if_neg (fun z => (List.mem_cons.mp z).elim (fun y => e y.symm) h)]
theorem kvI_put (ks : List Int) (lv : Int → Int) (r v : Int) : putK (kvI ks lv) (Sum.inl r) (.int v) = kvI (if r ∈ ks then ks else ks ++ [r]) (fun x => if x = r then v else lv x) := by
  unfold putK
  rw [valV_any, kvI_val]
  by_cases h : r ∈ ks
  · rw [if_pos h, if_pos (show (some (V.int (lv r))).isSome = true from rfl), if_pos h]
    unfold kvI
    rw [List.map_map]
    refine List.map_congr_left fun x _ => ?_
    show (if (Sum.inl x : Key) = Sum.inl r then ((Sum.inl x : Key), V.int v) else ((Sum.inl x : Key), V.int (lv x))) = ((Sum.inl x : Key), V.int (if x = r then v else lv x))
    by_cases e : x = r
    · rw [if_pos (by rw [e]), if_pos e]
    · rw [if_neg (fun z => e (Sum.inl.inj z)), if_neg e]
  · rw [if_neg h, if_neg (by decide), if_neg h]
    unfold kvI
    rw [List.map_append]
    congr 1
    · refine List.map_congr_left fun x hx => ?_
      show _ = ((Sum.inl x : Key), V.int (if x = r then v else lv x))
      rw [if_neg (fun (e : x = r) => h (e ▸ hx))]
    · show [((Sum.inl r : Key), V.int v)] = [((Sum.inl r : Key), V.int (if r = r then v else lv r))]
      rw [if_pos rfl]
theorem kvI_len (ks : List Int) (lv : Int → Int) : (kvI ks lv).length = ks.length := List.length_map ..
end RS
namespace RS
open PySem L2
section
variable {P : Program} {w : World} {K : PySem.W.Frag} {mg : Str → Option Value} {base : Heap}
/-- a tuple of two integers -/
def spTwo : Sp := fun vs H Q _ => ∃ (r : Addr) (f e : Int), vs = [.ref r] ∧ H r = some (.tup [.int f, .int e]) ∧ Q (.bl true) H
theorem scTwo : FnScope ["value"] ["value"] (defScope s_are_two_integers) := ⟨rfl, rfl, rfl, by decide +kernel, rfl, by decide +kernel, by decide +kernel⟩
theorem ok_two {f C fI : Addr} {fd fdI : FuncData} (F : Fun K "are_two_integers" "are_two_integers" s_are_two_integers f fd) (T : Txt K mg C)
    (GI : FnOk P w K mg base CX0 1 fI fdI ["value"] spIsInt) (bI : Binds K fdI ["value"] []) (mI : mg "is_integer" = some (.ref fI)) (kI : PySem.W.keepIn K (.ref fI) = true) : FnOk P w K mg base CX0 2 f fd ["value"] spTwo := by
  refine F.ok scTwo (fun vs H Q E h => ?_) (fun cdv A outer s H vs Q E hr h => ?_)
  · obtain ⟨r, f, e, rfl, _⟩ := h
    rfl
  · obtain ⟨r, f, e, rfl, hr1, k⟩ := h
    refine ⟨_, (pss_cons (ps_if (PW.pt (pw_or (pt_not (pt_val (pe_callB call_isi (by rfl) T.isi (by decide +kernel) (pa_cons (pv 0) (pa_cons (pe_bltn (v := .ty "tuple") (by rfl) T.tuple (by decide +kernel) rfl) pa_nil))))) (pw_or1 (pt_cmpR op_ne (pe_callB call_len_seq (by rfl) T.len (by decide +kernel) (pa_cons (pv 0) pa_nil)) pe_int (nomark _))))) (pss_one (ps_ret pe_bl)) pss_nil) (pss_one (ps_ret (pe_and (pe_call GI hr rfl mI kI bI .nil pass0 (pa_cons (pe_ix ix_tup (pv 0) pe_int (fun _ _ => rfl)) pa_nil)) (pe_one (pe_call GI hr rfl mI kI bI .nil pass0 (pa_cons (pe_ix ix_tup (pv 0) pe_int (fun _ _ => rfl)) pa_nil))))))), ?_⟩
    refine ⟨_, rfl, _, _, _, _, _, rfl, .ty _, .base (.tup hr1), kit_ty (r := true) (by decide +kernel), true, rfl, iteF ?_⟩
    refine ⟨_, rfl, r, _, rfl, .inr (SqT.of hr1), rfl, _, rfl, iteFb (by rfl) ?_⟩
    refine ⟨_, rfl, r, _, _, _, rfl, rfl, SqT.of hr1, atI_nat (j := 0) rfl, f, rfl, true, rfl, iteT ?_⟩
    exact ⟨_, rfl, r, _, _, _, rfl, rfl, SqT.of hr1, atI_nat (j := 1) rfl, e, rfl, k⟩
def spIsO : Sp := fun vs H Q _ => ∃ (r : Addr) (f e : Int), vs = [.ref r] ∧ H r = some (.tup [.int f, .int e]) ∧ f < e ∧ Q (.bl true) H
theorem scIsO : FnScope ["value"] ["value"] (defScope s_are_slots) := ⟨rfl, rfl, rfl, by decide +kernel, rfl, by decide +kernel, by decide +kernel⟩
theorem ok_isO {f C fI : Addr} {fd fdI : FuncData} (F : Fun K "are_slots" "are_slots" s_are_slots f fd) (T : Txt K mg C)
    (GI : FnOk P w K mg base CX0 2 fI fdI ["value"] spTwo) (bI : Binds K fdI ["value"] []) (mI : mg "are_two_integers" = some (.ref fI)) (kI : PySem.W.keepIn K (.ref fI) = true) : FnOk P w K mg base CX0 3 f fd ["value"] spIsO := by
  refine F.ok scIsO (fun vs H Q E h => ?_) (fun cdv A outer s H vs Q E hr h => ?_)
  · obtain ⟨r, f, e, rfl, _⟩ := h
    rfl
  · obtain ⟨r, f, e, rfl, hr1, hfe, k⟩ := h
    refine ⟨_, (pss_one (ps_ret (pe_and (pe_call GI hr rfl mI kI bI .nil pass0 (pa_cons (pv 0) pa_nil)) (pe_one (pe_cmpR op_lt (pe_ix ix_tup (pv 0) pe_int (fun _ _ => rfl)) (pe_ix ix_tup (pv 0) pe_int (fun _ _ => rfl)) (nomark _)))))), ?_⟩
    refine ⟨_, rfl, r, f, e, rfl, hr1, true, rfl, iteT ?_⟩
    refine ⟨_, rfl, r, _, _, _, rfl, rfl, SqT.of hr1, atI_nat (j := 0) rfl, _, rfl, r, _, _, _, rfl, rfl, SqT.of hr1, atI_nat (j := 1) rfl, _, _, rfl, rfl, ?_⟩
    show Q (.bl (decide (f < e))) H
    rw [decide_eq_true hfe]
    exact k
end
end RS
namespace RS
open PySem L2
/-! ### logs -/
/-- how often a slot is counted -/
def cntOf (ps : List (Int × Int)) (x : Int) : Int := ((ps.filter fun p => decide (p.1 = x)).map (·.2)).sum
theorem cntOf_snoc (ps : List (Int × Int)) (p : Int × Int) (x : Int) : cntOf (ps ++ [p]) x = if x = p.1 then cntOf ps p.1 + p.2 else cntOf ps x := by
  unfold cntOf
  rw [List.filter_append]
  by_cases h : x = p.1
  · subst h
    rw [if_pos rfl, List.filter_cons, if_pos (decide_eq_true rfl), List.map_append, List.sum_append]
    simp
  · rw [if_neg h, List.filter_cons, if_neg (by rw [decide_eq_true_iff]; exact fun e => h e.symm), List.filter_nil, List.append_nil]
/-- the log of some entries: ascending slots, with their counts -/
structure LogOf (ps es : List (Int × Int)) : Prop where
  asc : es.Pairwise fun p q => p.1 < q.1
  cnt : ∀ p ∈ es, p.2 = cntOf ps p.1
  mem : ∀ x, (∃ p ∈ es, p.1 = x) ↔ ∃ p ∈ ps, p.1 = x
section
variable {P : Program} {w : World} {K : PySem.W.Frag} {mg : Str → Option Value} {base : Heap}
/-! ### _check_window -/
def spCw : Sp := fun vs H Q _ => ∃ (r : Addr) (f e : Int), vs = [.ref r] ∧ H r = some (.tup [.int f, .int e]) ∧ f < e ∧ Q .non H
theorem scCw : FnScope ["window"] ["window"] (defScope s_check_window) := ⟨rfl, rfl, rfl, by decide +kernel, rfl, by decide +kernel, by decide +kernel⟩
theorem ok_cw {f fO : Addr} {fd fdO : FuncData} (F : Fun K "_check_window" "_check_window" s_check_window f fd)
    (GO : FnOk P w K mg base CX0 3 fO fdO ["value"] spIsO) (bO : Binds K fdO ["value"] []) (mO : mg "are_slots" = some (.ref fO)) (kO : PySem.W.keepIn K (.ref fO) = true) : FnOk P w K mg base CX0 4 f fd ["window"] spCw := by
  refine F.ok scCw (fun vs H Q E h => ?_) (fun cdv A outer s H vs Q E hr h => ?_)
  · obtain ⟨r, f, e, rfl, _⟩ := h
    rfl
  · obtain ⟨r, f, e, rfl, hw, hfe, k⟩ := h
    refine ⟨_, (pss_one (ps_if (pt_not (pt_val (pe_call GO hr rfl mO kO bO .nil pass0 (pa_cons (pv 0) pa_nil)))) (pss_one ps_never) pss_nil)), ?_⟩
    exact ⟨_, rfl, r, f, e, rfl, hw, hfe, true, rfl, iteF k⟩
end
end RS
namespace RS
open PySem L2
/-- which attempts of a client lie in a window -/
structure WinN (gs : List Int) (tl : Tl) (lo hi b : Int) (a n : Nat) : Prop where
  h1 : HD gs tl (lo - b)
  h2 : HD gs tl (hi - b)
  c1 : CntB gs tl (lo - b) a
  c2 : CntB gs tl (hi - b) (a + n)
  n500 : n ≤ 500
  a6 : a ≤ 1000000
/-- the slots of the attempts from a on, so many -/
def slotR (gs : List Int) (tl : Tl) (b : Int) (a n : Nat) : List Int := (offR gs tl a n).map fun o => b + o
end RS
namespace RS
open PySem L2
/-! ### slices -/
theorem cut_to (xs : List V) (n : Nat) : cutV xs none (some (n : Int)) = xs.take n := by
  unfold cutV
  rw [HT.sIx_none, HT.sIx_nat, List.drop_zero, Nat.sub_zero]
  by_cases h : n ≤ xs.length
  · rw [Nat.min_eq_left h]
  · rw [Nat.min_eq_right (by omega), List.take_length, List.take_of_length_le (by omega)]
theorem cut_mid (xs : List V) (i n : Nat) : cutV xs (some (i : Int)) (some (n : Int)) = (xs.drop i).take (n - i) := by
  unfold cutV
  rw [HT.sIx_nat, HT.sIx_nat]
  by_cases h : i ≤ xs.length
  · rw [Nat.min_eq_left h]
    by_cases h2 : n ≤ xs.length
    · rw [Nat.min_eq_left h2]
    · rw [Nat.min_eq_right (by omega), List.take_of_length_le (by rw [List.length_drop]; exact Nat.le_refl _), List.take_of_length_le (by rw [List.length_drop]; omega)]
  · rw [show min i xs.length = xs.length by omega, List.drop_of_length_le (Nat.le_refl _), List.drop_of_length_le (show xs.length ≤ i by omega)]
    simp
theorem cut_back (xs : List V) {m : Nat} (h0 : 0 < m) (h : m ≤ xs.length) : cutV xs (some (-(m : Int))) none = xs.drop (xs.length - m) := by
  have e : HT.sIx xs.length 0 (some (-(m : Int))) = xs.length - m := by
    show (if -(m : Int) < 0 then (-(m : Int) + (xs.length : Int)).toNat else min (-(m : Int)).toNat xs.length) = _
    rw [if_pos (by omega)]
    omega
  unfold cutV
  rw [e, HT.sIx_none, List.take_of_length_le (by rw [List.length_drop]; exact Nat.le_refl _)]
theorem cut_from (xs : List V) {i : Nat} (h : i ≤ xs.length) : cutV xs (some (i : Int)) none = xs.drop i := by
  unfold cutV
  rw [HT.sIx_nat, HT.sIx_none, Nat.min_eq_left h, List.take_of_length_le (by rw [List.length_drop]; exact Nat.le_refl _)]
end RS
namespace RS
open PySem L2
/-- a log of a window -/
structure LogOk (es : List (Int × Int)) (lo hi : Int) : Prop where
  asc : es.Pairwise fun p q => p.1 < q.1
  bd : ∀ p ∈ es, lo ≤ p.1 ∧ p.1 < hi ∧ 1 ≤ p.2
  l500 : es.length ≤ 500
/-- the beginning of a list up to the first that is not logged -/
def upTo (lg : Int → Bool) : List Int → List Int
  | [] => []
  | x :: xs => if lg x then x :: upTo lg xs else [x]
theorem upTo_all {lg : Int → Bool} : ∀ {xs : List Int}, (∀ x ∈ xs, lg x = true) → upTo lg xs = xs
  | [], _ => rfl
  | x :: xs, h => by
    unfold upTo
    rw [if_pos (h x (List.mem_cons_self ..)), upTo_all fun y hy => h y (List.mem_cons_of_mem _ hy)]
theorem upTo_cut {lg : Int → Bool} : ∀ {xs : List Int} {i : Nat} {x : Int}, xs[i]? = some x → lg x = false → (∀ y ∈ xs.take i, lg y = true) → upTo lg xs = xs.take (i + 1)
  | [], _, _, h, _, _ => nomatch h
  | y :: xs, 0, x, h, hx, _ => by
    cases h
    unfold upTo
    rw [if_neg (by rw [hx]; simp)]
    rfl
  | y :: xs, i + 1, x, h, hx, ha => by
    unfold upTo
    rw [if_pos (ha y (by rw [List.take_succ_cons]; exact List.mem_cons_self ..)), upTo_cut (i := i) h hx fun z hz => ha z (by rw [List.take_succ_cons]; exact List.mem_cons_of_mem _ hz)]
    rfl
section
variable {P : Program} {w : World} {K : PySem.W.Frag} {mg : Str → Option Value} {base : Heap}
/-! ### _check_log -/
def spKl : Sp := fun vs H Q _ => ∃ (l wd : Addr) (us : List Addr) (es : List (Int × Int)) (lo hi : Int), vs = [.ref l, .ref wd] ∧ H l = some (.lst (us.map V.ref)) ∧ TupsI H us es ∧ H wd = some (.tup [.int lo, .int hi]) ∧ LogOk es lo hi ∧ ∀ H', Same H H' → Q .non H'
def klgN : List Str := ["log", "window", "least", "at", "entry"]
theorem scKl : FnScope klgN ["log", "window"] (defScope s_check_log) := ⟨rfl, rfl, rfl, by decide +kernel, rfl, by decide +kernel, by decide +kernel⟩
theorem ok_kl {f C fT : Addr} {fd fdT : FuncData} (F : Fun K "_check_log" "_check_log" s_check_log f fd) (T : Txt K mg C) (mE : ∃ t, mg "_MOST_ENTRIES" = some (.int 500 t))
    (GT : FnOk P w K mg base CX0 2 fT fdT ["value"] spTwo) (bT : Binds K fdT ["value"] []) (mT : mg "are_two_integers" = some (.ref fT)) (kT : PySem.W.keepIn K (.ref fT) = true) : FnOk P w K mg base CX0 3 f fd ["log", "window"] spKl := by
  obtain ⟨te, me⟩ := mE
  refine F.ok scKl (fun vs H Q E h => ?_) (fun cdv A outer s H vs Q E hr h => ?_)
  · obtain ⟨l, wd, us, es, lo, hi, rfl, _⟩ := h
    rfl
  · obtain ⟨l, wd, us, es, lo, hi, rfl, hl, hus, hw, ok, k⟩ := h
    have hul : us.length = es.length := hus.1
    have h5 := ok.l500
    refine ⟨_, (pss_cons (ps_if (PW.pt (pw_or (pt_not (pt_val (pe_callB call_isi (by rfl) T.isi (by decide +kernel) (pa_cons (pv 0) (pa_cons (pe_bltn (v := .ty "list") (by rfl) T.list (by decide +kernel) rfl) pa_nil))))) (pw_or1 (pt_cmpR op_gt (pe_callB call_len_seq (by rfl) T.len (by decide +kernel) (pa_cons (pv 0) pa_nil)) (pe_glob (v := .int 500) rfl me ⟨_, rfl⟩) (nomark _))))) (pss_one ps_never) pss_nil) (pss_cons (ps_set (i := 2) scKl.nd rfl (Or.inl rfl) (pe_ix ix_tup (pv 1) pe_int (fun _ _ => rfl))) (pss_one (ps_for PassesOwn.never rfl (pi_enum (by rfl) T.enum (pa_cons (pv 0) pa_nil)) (pg_tup rfl (pgs_cons (pg_name (i := 3) scKl.nd rfl (Or.inl rfl)) (pgs_cons (pg_name (i := 4) scKl.nd rfl (Or.inl rfl)) pgs_nil)))
        (pss_cons (ps_if (PW.pt (pw_or (pt_not (pt_val (pe_call GT hr rfl mT kT bT .nil pass0 (pa_cons (pv 4) pa_nil)))) (pw_or (pt_cmpR op_lt (pe_ix ix_tup (pv 4) pe_int (fun _ _ => rfl)) pe_int (nomark _)) (pw_or1 (pt_not (pt_chain op_le op_lt (pv 2) (pe_ix ix_tup (pv 4) pe_int (fun _ _ => rfl)) (pe_ix ix_tup (pv 1) pe_int (fun _ _ => rfl)))))))) (pss_one ps_never) pss_nil) (pss_one (ps_set (i := 2) scKl.nd rfl (Or.inl rfl) (pe_op op_add (pe_ix ix_tup (pv 4) pe_int (fun _ _ => rfl)) pe_int)))))))), ?_⟩
    refine ⟨_, rfl, _, _, _, _, _, rfl, .ty _, .base (.lst hl), kit_ty (r := true) (by decide +kernel), true, rfl, iteF ?_⟩
    refine ⟨_, rfl, l, _, rfl, .inl (SqL.of hl), _, _, rfl, rfl, _, rfl, iteFb (decide_eq_false (by rw [List.length_map]; omega)) ?_⟩
    refine ⟨_, rfl, wd, _, _, _, rfl, rfl, SqT.of hw, atI_nat (j := 0) rfl, ?_⟩
    refine ⟨_, rfl, l, _, rfl, SqL.of hl, for_it (walk_enum (a := l) (xs := us.map V.ref)) (fun i σ H' => (∃ (m : Int) (v3 v4 : Option V), σ = [some (.ref l), some (.ref wd), some (.int m), v3, v4] ∧ ∀ j p, i ≤ j → es[j]? = some p → m ≤ p.1) ∧ Same H H') ⟨⟨lo, _, _, rfl, fun j p _ hp => (ok.bd p (List.mem_of_getElem? hp)).1⟩, Same.refl H⟩ (fun i σ H' _ p => SqL.of (p.2 _ _ hl)) ?_ ?_⟩
    · rintro i x σ H1 H2 hi' ⟨⟨m, v3, v4, rfl, hm⟩, S⟩ ⟨T2, x1, y1, rfl, hT, rfl, hx1, hy1⟩
      obtain rfl := Option.some.inj hx1
      obtain ⟨r, p, rfl, hp, hr1⟩ := hus.get hy1
      have hi := (List.getElem?_eq_some_iff.mp hp).1
      have sT := same_new (o := .tup [V.int (i : Nat), .ref r]) hT
      have hr2 := sT _ _ (S _ _ hr1)
      have hw2 := sT _ _ (S _ _ hw)
      have hb := ok.bd p (List.mem_of_getElem? hp)
      have hmp := hm i p (Nat.le_refl _) hp
      refine ⟨T2, _, rfl, SqT.of upd_same, rfl, _, _, rfl, _, _, rfl, rfl, ?_⟩
      refine ⟨_, rfl, r, p.1, p.2, rfl, hr2, true, rfl, iteF ?_⟩
      refine ⟨_, rfl, r, _, _, _, rfl, rfl, SqT.of hr2, atI_nat (j := 1) rfl, _, _, rfl, rfl, _, rfl, iteFb (decide_eq_false (by omega)) ?_⟩
      refine ⟨_, rfl, _, rfl, r, _, _, _, rfl, rfl, SqT.of hr2, atI_nat (j := 0) rfl, _, _, rfl, rfl, _, rfl, iteTb (decide_eq_true hmp) ?_⟩
      refine ⟨_, rfl, wd, _, _, _, rfl, rfl, SqT.of hw2, atI_nat (j := 1) rfl, _, _, rfl, rfl, _, rfl, iteFb (by rw [decide_eq_true hb.2.1]; rfl) ?_⟩
      refine ⟨_, rfl, r, _, _, _, rfl, rfl, SqT.of hr2, atI_nat (j := 0) rfl, _, _, rfl, rfl, ?_⟩
      refine ⟨⟨p.1 + 1, _, _, rfl, fun j q hj hq => ?_⟩, S.trans sT⟩
      have hjl := (List.getElem?_eq_some_iff.mp hq).1
      have := List.pairwise_iff_getElem.mp ok.asc i j hi hjl (by omega)
      rw [(List.getElem?_eq_some_iff.mp hp).2, (List.getElem?_eq_some_iff.mp hq).2] at this
      omega
    · rintro σ H1 ⟨_, S⟩
      exact k H1 S
/-! ### _up_to_unlogged -/
def spUu : Sp := fun vs H Q _ => ∃ (l t : Addr) (xs : List Int) (kvs : List (Key × V)) (lg : Int → Bool), vs = [.ref l, .ref t] ∧ H l = some (.lst (xs.map V.int)) ∧ xs.length ≤ 1000 ∧ H t = some (.dK kvs) ∧ (∀ x : Int, (valV kvs (Sum.inl x)).isSome = lg x) ∧ ∀ q H', Same H H' → H' q = some (.lst ((upTo lg xs).map V.int)) → Q (.ref q) H'
def uuN : List Str := ["slots", "logged", "at", "slot"]
theorem scUu : FnScope uuN ["slots", "logged"] (defScope s_up_to_unlogged) := ⟨rfl, rfl, rfl, by decide +kernel, rfl, by decide +kernel, by decide +kernel⟩
theorem ok_uu {f C : Addr} {fd : FuncData} (F : Fun K "_up_to_unlogged" "_up_to_unlogged" s_up_to_unlogged f fd) (T : Txt K mg C) : FnOk P w K mg base CX0 1 f fd ["slots", "logged"] spUu := by
  refine F.ok scUu (fun vs H Q E h => ?_) (fun cdv A outer s H vs Q E hr h => ?_)
  · obtain ⟨l, t, xs, kvs, lg, rfl, _⟩ := h
    rfl
  · obtain ⟨l, t, xs, kvs, lg, rfl, hl, hx1000, ht, hlg, k⟩ := h
    have hu := hu_of hr
    refine ⟨_, (pss_cons (ps_for PassesOwn.never rfl (pi_enum (by rfl) T.enum (pa_cons (pv 0) pa_nil)) (pg_tup rfl (pgs_cons (pg_name (i := 2) scUu.nd rfl (Or.inl rfl)) (pgs_cons (pg_name (i := 3) scUu.nd rfl (Or.inl rfl)) pgs_nil)))
        (pss_one (ps_if (pt_cmp (pc_dnotin hu (pv 3) (pv 1))) (pss_one (ps_ret (pe_slice sl_list (pv 0) po_none (po_some (pe_op op_add (pv 2) pe_int))))) pss_nil))) (pss_one (ps_ret (pv 0)))), ?_⟩
    refine ⟨_, rfl, l, _, rfl, SqL.of hl, for_it (walk_enum (a := l) (xs := xs.map V.int)) (fun i σ H' => (∃ (v2 v3 : Option V), σ = [some (.ref l), some (.ref t), v2, v3]) ∧ Same H H' ∧ ∀ y ∈ xs.take i, lg y = true) ⟨⟨_, _, rfl⟩, Same.refl H, fun y hy => nomatch hy⟩ (fun i σ H' _ p => SqL.of (p.2.1 _ _ hl)) ?_ ?_⟩
    · rintro i x σ H1 H2 hi' ⟨⟨v2, v3, rfl⟩, S, ha⟩ ⟨T2, x1, y1, rfl, hT, rfl, hx1, hy1⟩
      obtain rfl := Option.some.inj hx1
      obtain ⟨y, hy, rfl⟩ := map_of hy1
      have sT := same_new (o := .tup [V.int (i : Nat), .int y]) hT
      have S2 := S.trans sT
      refine ⟨T2, _, rfl, SqT.of upd_same, rfl, _, _, rfl, _, _, rfl, rfl, ?_⟩
      refine ⟨_, rfl, _, rfl, t, _, rfl, DGet.k (k := (Sum.inl y : Key)) (S2 _ _ ht), _, rfl, ?_⟩
      rw [hlg]
      cases hy2 : lg y with
      | true =>
        refine iteFb rfl ⟨⟨_, _, rfl⟩, S2, fun z hz => ?_⟩
        rw [List.take_add_one, hy] at hz
        rcases List.mem_append.mp hz with hz | hz
        · exact ha z hz
        · have : z = y := List.mem_singleton.mp hz
          rw [this]
          exact hy2
      | false =>
        refine iteTb rfl ?_
        refine ⟨_, rfl, _, rfl, _, _, rfl, rfl, _, rfl, l, _, rfl, SqL.of (S2 _ _ hl), fun q hq => ?_⟩
        refine k q _ (S2.trans (same_new hq)) ?_
        rw [upd_same, upTo_cut hy hy2 ha, List.map_take]
        have e : (i : Int) + 1 = ((i + 1 : Nat) : Int) := by omega
        rw [e, cut_to]
    · rintro σ H1 ⟨⟨v2, v3, rfl⟩, S, ha⟩
      rw [List.length_map, List.take_length] at ha
      refine ⟨_, rfl, k l H1 S ?_⟩
      rw [upTo_all ha]
      exact S _ _ hl
end
end RS
namespace RS
open PySem L2
/-! ### what infer_starts returns, told by itself -/
structure InfSt where
  cf : Int → Int
  clash : Int
  starts : List (Int × Int)
def infSlots (os : List Int) (hi : Int) (lg : Int → Bool) (s : Int) : List Int := upTo lg ((os.filter fun o => decide (s + o < hi)).map fun o => s + o)
def infStep (os : List Int) (hi : Int) (lg : Int → Bool) (st : InfSt) (e : Int × Int) : InfSt :=
  if st.cf e.1 < e.2 then
    { cf := fun x => st.cf x + (e.2 - st.cf e.1) * ((infSlots os hi lg e.1).count x : Nat), clash := if lg ((infSlots os hi lg e.1).getLastD 0) then st.clash else min st.clash ((infSlots os hi lg e.1).getLastD 0), starts := st.starts ++ [(e.1, e.2 - st.cf e.1)] }
  else st
def infRes (os : List Int) (hi : Int) (lg : Int → Bool) : List (Int × Int) → InfSt → Sum (Int × Int × Int) (List (Int × Int))
  | [], st => .inr st.starts
  | e :: r, st => if st.clash < e.1 then .inl (st.clash, st.cf st.clash, 0) else if e.2 < st.cf e.1 then .inl (e.1, st.cf e.1, e.2) else infRes os hi lg r (infStep os hi lg st e)
def inf0 (hi : Int) : InfSt := ⟨fun _ => 0, hi, []⟩
def logB (es : List (Int × Int)) (x : Int) : Bool := decide (∃ p ∈ es, p.1 = x)
/-- what is returned -/
def InfV (H : Hp) (q : Addr) : Sum (Int × Int × Int) (List (Int × Int)) → Prop
  | .inl (a, b, c) => H q = some (.tup [.str "clash", .int a, .int b, .int c])
  | .inr ss => ∃ (l : Addr) (ws : List Addr), H q = some (.tup [.str "starts", .ref l]) ∧ H l = some (.lst (ws.map V.ref)) ∧ TupsI H ws ss
theorem upTo_ne {lg : Int → Bool} {xs : List Int} (h : xs ≠ []) : upTo lg xs ≠ [] := by
  cases xs with
  | nil => exact absurd rfl h
  | cons x xs =>
    unfold upTo
    split
    · exact fun z => nomatch z
    · exact fun z => nomatch z
theorem upTo_len {lg : Int → Bool} : ∀ xs : List Int, (upTo lg xs).length ≤ xs.length
  | [] => Nat.le_refl _
  | x :: xs => by
    have := upTo_len (lg := lg) xs
    unfold upTo
    split
    · rw [List.length_cons, List.length_cons]
      omega
    · rw [List.length_cons, List.length_cons]
      show 0 + 1 ≤ _
      omega
theorem infSlots_len (os : List Int) (hi : Int) (lg : Int → Bool) (s : Int) : (infSlots os hi lg s).length ≤ os.length := by
  unfold infSlots
  refine Nat.le_trans (upTo_len _) ?_
  rw [List.length_map]
  exact List.length_filter_le _ _
theorem infSlots_ne {os : List Int} {hi : Int} {lg : Int → Bool} {s : Int} (h0 : os[0]? = some 0) (h : s < hi) : infSlots os hi lg s ≠ [] := by
  refine upTo_ne fun z => ?_
  have z := List.map_eq_nil_iff.mp z
  have hm : (0 : Int) ∈ os := List.mem_of_getElem? h0
  have : (0 : Int) ∈ os.filter fun o => decide (s + o < hi) := List.mem_filter.mpr ⟨hm, decide_eq_true (by omega)⟩
  rw [z] at this
  cases this
end RS
namespace L2
open PySem PySem.Spec PyProof.Rows
/-- a dict comprehension over a walk -/
theorem dc_it {J : It} {n : Nat} {G : Hp → Prop} {Y : Nat → Hp → V → Hp → Prop} (w : Walk J n G Y) {g : TG} {tt : TT} {tk tv : TE} {vs : List Nat} {σ : St} {H1 : Hp} {D : Addr} {Qd : Hp → Prop} (Pv : Nat → Hp → Prop) (h0 : Pv 0 (upd H1 D (.dK []))) (hG : ∀ i H, i ≤ n → Pv i H → G H)
    (hs : ∀ i x H H', i < n → Pv i H → Y i H x H' → g x (wipe σ vs) H' fun σ2 H2 => wipe σ2 vs = wipe σ vs ∧ tt σ2 H2 fun b H3 =>
      if b = true then tk σ2 H3 fun y H4 => tv σ2 H4 fun z H5 => ∃ kvs k, y = kV k ∧ H5 D = some (.dK kvs) ∧ kvs.length < sizeLine ∧ Pv (i + 1) (upd H5 D (.dK (putK kvs k z))) else Pv (i + 1) H3) (hd : ∀ H, Pv n H → Qd H) :
    ∃ W : Nat → Nat → Hp → Prop, (∃ m, W 0 m (upd H1 D (.dK []))) ∧ ∀ i m H, W i m H →
      (J.stop i H ∧ Qd H) ∨ (J.go i H ∧ ∃ Nx : Hp → Prop, (∀ H', Nx H' → ∃ m', m' < m ∧ W (i + 1) m' H') ∧ ∀ x H', J.yld i H x H' → g x (wipe σ vs) H' fun σ2 H2 => wipe σ2 vs = wipe σ vs ∧ tt σ2 H2 fun b H3 =>
        if b = true then tk σ2 H3 fun y H4 => tv σ2 H4 fun z H5 => ∃ kvs k, y = kV k ∧ H5 D = some (.dK kvs) ∧ kvs.length < sizeLine ∧ Nx (upd H5 D (.dK (putK kvs k z))) else Nx H3) := by
  let W : Nat → Nat → Hp → Prop := fun i m H => i + m = n ∧ Pv i H
  refine ⟨W, ⟨n, Nat.zero_add n, h0⟩, fun i m H ⟨im, p⟩ => ?_⟩
  have q := hG i H (by omega) p
  match m, im with
  | 0, im =>
    have e : i = n := im
    subst e
    exact .inl ⟨w.stops H q, hd H p⟩
  | m + 1, im => exact .inr ⟨w.goes i H (by omega) q, Pv (i + 1), fun H' p' => ⟨m, Nat.lt_succ_self m, by show i + 1 + m = n; omega, p'⟩, fun x H' y => hs i x H H' (by omega) p (w.yields i H x H' (by omega) q y)⟩
end L2
/-! ### name = {k: v for ..}, the name a local -/
namespace L2
open PySem PySem.Spec PyProof.Rows
theorem sw_dict {kx vx : Expr} {cs : List Comprehension} {scope : Scope} {pos py : Pos} {y : Str} {line : Nat} {env : Env} (fn : env.scope.kind = .function) (loc : env.scope.names.lookup y = some .local) (row : (py.line == pos.line) = true)
    (own : (scope.names.any fun (n, k) => n == y && (k == .local || k == .cell)) = false) : swapsWith (.DictComp kx vx cs scope pos) (some (.Name y py)) line env = pure true := by
  have a : env.kindOf y = some .local := loc
  have b : env.blockKind = .function := by
    unfold Env.blockKind
    rw [fn]
    rfl
  unfold swapsWith
  simp only [a, b, own, Expr.pos, row]
  rfl
theorem ps_setDc {X : Cx} {i : Nat} {y : Str} {py pos spos : Pos} {kx vx tg iter : Expr} {ifs : List Expr} {scope : Scope} {own : List (Str × Nat)} {wi : TI} {g : TG} {tt : TT} {tk tv : TE} (hc : X.calm = true) (hN : X.N.Nodup) (iy : X.N[i]? = some y) (ly : X.env.scope.names.lookup y = some .local)
    (sw : swapsWith (.DictComp kx vx [⟨tg, iter, ifs, 0⟩] scope pos) (some (.Name y py)) spos.line X.env = pure true) (hi : PI X tg iter wi) (ok : BlkOk X.N X.env.scope scope own)
    (hg : ∀ (s : Shared) (H : Hp) (C : Addr) (cl : List (Str × Addr)) (fp : List Addr), PG (X.blk s H scope (compEnvC scope cl C X.env) fp) tg g) (ht : ∀ (s : Shared) (H : Hp) (C : Addr) (cl : List (Str × Addr)) (fp : List Addr), PTs (X.blk s H scope (compEnvC scope cl C X.env) fp) ifs tt)
    (hk : ∀ (s : Shared) (H : Hp) (C : Addr) (cl : List (Str × Addr)) (fp : List Addr), PE (X.blk s H scope (compEnvC scope cl C X.env) fp) kx tk)
    (he : ∀ (s : Shared) (H : Hp) (C : Addr) (cl : List (Str × Addr)) (fp : List Addr), PE (X.blk s H scope (compEnvC scope cl C X.env) fp) vx tv) (hs : ∀ x, foldedSetIterable iter X.env x = pure x := by intro _; rfl) :
    PS X (.Assign [.Name y py] (.DictComp kx vx [⟨tg, iter, ifs, 0⟩] scope pos) spos) (tAsg (tDc wi g tt tk tv (own.map (·.2))) (gName i)) := by
  constructor
  intro pins s σ H D I h
  have told : tDc wi g tt tk tv (own.map (·.2)) σ H (fun x H1 => gName i x σ H1 D.nx) := h
  rw [exec_Assign_Name_used _ _ _ _ sw]
  refine wpAny_bind (wpAny_standAt (wpAny_bind ?_))
  refine wpAny_bind (thn (show wpAny _ X.A (comprehension (.DictComp kx vx [⟨tg, iter, ifs, 0⟩] scope pos) scope X.env (firstIterPos [⟨tg, iter, ifs, 0⟩] pos) newDict false (eval iter X.env) (some (assign (.Name y py) X.env))) (fun _ s' => SP X pins D .next s') _ s from
    dc_core hc hN I hi ok hg ht hk he hs told fun L C s' m H' I' q ns fo => ?_) fun _ _ z => wpAny_pure (wpAny_pure z))
  obtain ⟨f0, f1, f2, f3, f4, f5⟩ := fo
  show wpAny _ _ (assign (.Name y py) X.env (.ref L)) _ _ _
  refine wpAny_assign_Name (store_ok2 (v := V.ref L) I' hN iy (.inl ly) rfl (fun s2 I2 ⟨a, sb, ha⟩ => ?_) (.inr ly))
  have apart : C ≠ a := ha.elim (fun z => z ▸ f1) fun z e => f4 y a z e.symm
  exact ⟨m, ns.sameBut sb apart, fun h3 sb3 => ⟨_, H', I2.turned (t' := s2.toks) (fun b o hb e => (sb3.2 b hb).trans e) f0 f1 f3 f4 f5, q⟩⟩
end L2
namespace RS
open PySem L2
theorem last_at {l : List Int} (h : l ≠ []) : atI (l.map V.int) (-1) = some (.int (l.getLastD 0)) := by
  refine at_back1 (v := V.int (l.getLastD 0)) (by rw [List.length_map]; exact List.length_pos_iff.mpr h) ?_
  rw [List.length_map, List.getElem?_map, ← List.getLast?_eq_getElem?]
  cases e : l.getLast? with
  | none => exact absurd (List.getLast?_eq_none_iff.mp e) h
  | some x =>
    rw [List.getLastD_eq_getLast?, e]
    rfl
theorem selTo_fm (os : List Int) (p : Int → Bool) (f : Int → Int) : ∀ i, i ≤ os.length → selTo (fun j => (os[j]?).bind fun o => if p o then some (V.int (f o)) else none) i = (((os.take i).filter p).map f).map V.int
  | 0, _ => by rw [List.take_zero]; rfl
  | i + 1, h => by
    rw [selTo_succ, selTo_fm os p f i (by omega), List.take_add_one, List.getElem?_eq_getElem (show i < os.length by omega), List.filter_append, List.map_append, List.map_append]
    congr 1
    show (if p os[i] then some (V.int (f os[i])) else none).toList = (([os[i]].filter p).map f).map V.int
    rw [List.filter_cons]
    cases p os[i] <;> rfl
theorem upTo_sub {lg : Int → Bool} : ∀ {xs : List Int} {y : Int}, y ∈ upTo lg xs → y ∈ xs
  | [], _, h => nomatch h
  | x :: xs, y, h => by
    unfold upTo at h
    split at h
    · rcases List.mem_cons.mp h with rfl | h
      · exact List.mem_cons_self ..
      · exact List.mem_cons_of_mem _ (upTo_sub h)
    · rw [List.mem_singleton.mp h]
      exact List.mem_cons_self ..
theorem infSlots_hi {os : List Int} {hi : Int} {lg : Int → Bool} {s y : Int} (h : y ∈ infSlots os hi lg s) : y < hi := by
  obtain ⟨o, ho, rfl⟩ := List.mem_map.mp (upTo_sub h)
  exact of_decide_eq_true (List.mem_filter.mp ho).2
theorem kvI_get0 {ks : List Int} {cf : Int → Int} (h0 : ∀ x, x ∉ ks → cf x = 0) (x : Int) : (valV (kvI ks cf) (Sum.inl x)).getD (V.int 0) = V.int (cf x) := by
  rw [kvI_val]
  by_cases h : x ∈ ks
  · rw [if_pos h]
    rfl
  · rw [if_neg h, h0 x h]
    rfl
section
variable {P : Program} {w : World} {K : PySem.W.Frag} {mg : Str → Option Value} {base : Heap}
/-! ### infer_starts -/
/-- the list in what is returned is a new one -/
def NewL (H H' : Hp) (q : Addr) : Prop := ∀ x l, H' q = some (.tup [x, .ref l]) → H l = none
def spIn (C : Addr) : Sp := fun vs H Q _ => ∃ (p g t o wd l : Addr) (gs : List Int) (tl : Tl) (lo hi : Int) (us : List Addr) (es : List (Int × Int)) (m : Nat), vs = [.ref p, .ref wd, .ref l] ∧ RuleAt C H p g t o gs tl ∧ H wd = some (.tup [.int lo, .int hi]) ∧ lo < hi ∧ H l = some (.lst (us.map V.ref)) ∧ TupsI H us es ∧ LogOk es lo hi ∧
  HD gs tl (hi - lo) ∧ CntB gs tl (hi - lo) m ∧ ∀ q H', Same H H' → InfV H' q (infRes (offR gs tl 0 (min m (es.length + 1))) hi (logB es) (es ++ [(hi, 0)]) (inf0 hi)) → NewL H H' q → Q (.ref q) H'
def inN : List Str := ["rule", "window", "log", "first", "after", "offsets", "logged", "caused", "clash", "starts", "slot", "count", "expected", "slots", "other", "offset"]
theorem scIn : FnScope inN ["rule", "window", "log"] (defScope s_infer_starts) := ⟨rfl, rfl, rfl, by decide +kernel, rfl, by decide +kernel, by decide +kernel⟩
theorem ok_in {f C fW fK fA fO fU : Addr} {fd fdW fdK fdA fdO fdU : FuncData} (F : Fun K "infer_starts" "infer_starts" s_infer_starts f fd) (T : Txt K mg C)
    (GW : FnOk P w K mg base CX0 4 fW fdW ["window"] spCw) (bW : Binds K fdW ["window"] []) (mW : mg "_check_window" = some (.ref fW)) (kW : PySem.W.keepIn K (.ref fW) = true)
    (GK : FnOk P w K mg base CX0 3 fK fdK ["log", "window"] spKl) (bK : Binds K fdK ["log", "window"] []) (mK : mg "_check_log" = some (.ref fK)) (kK : PySem.W.keepIn K (.ref fK) = true)
    (GA : FnOk P w K mg base CX0 6 fA fdA ["rule", "distance"] (spAb C)) (bA : Binds K fdA ["rule", "distance"] []) (mA : mg "attempts_before" = some (.ref fA)) (kA : PySem.W.keepIn K (.ref fA) = true)
    (GO : FnOk P w K mg base CX0 4 fO fdO ["self", "first", "after"] (spOb2 C)) (bO : Binds K fdO ["self", "first", "after"] []) (mO : Meth K C "offsets_between" fO)
    (GU : FnOk P w K mg base CX0 1 fU fdU ["slots", "logged"] spUu) (bU : Binds K fdU ["slots", "logged"] []) (mU : mg "_up_to_unlogged" = some (.ref fU)) (kU : PySem.W.keepIn K (.ref fU) = true) : FnOk P w K mg base CX0 7 f fd ["rule", "window", "log"] (spIn C) := by
  refine F.ok scIn (fun vs H Q E h => ?_) (fun cdv A outer s H vs Q E hr h => ?_)
  · obtain ⟨p, g, t, o, wd, l, gs, tl, lo, hi, us, es, m, rfl, _⟩ := h
    rfl
  · obtain ⟨p, g, t, o, wd, l, gs, tl, lo, hi, us, es, m, rfl, R, hw, hlh, hl, hus, ok, hHD, hcnt, k⟩ := h
    have hu := hu_of hr
    have hr1 := hr.mono (show 1 ≤ 6 by decide)
    have hr3 := hr.mono (show 3 ≤ 6 by decide)
    have hr4 := hr.mono (show 4 ≤ 6 by decide)
    have hul : us.length = es.length := hus.1
    have h5 := ok.l500
    refine ⟨_, (pss_cons (ps_expr (pe_call GW hr4 rfl mW kW bW .nil pass0 (pa_cons (pv 1) pa_nil))) (pss_cons (ps_expr (pe_call GK hr3 rfl mK kK bK .nil pass0 (pa_cons (pv 2) (pa_cons (pv 1) pa_nil)))) (pss_cons (ps_asg (pv 1) (pg_tup rfl (pgs_cons (pg_name (i := 3) scIn.nd rfl (Or.inl rfl)) (pgs_cons (pg_name (i := 4) scIn.nd rfl (Or.inr rfl)) pgs_nil)))) (pss_cons (ps_set (i := 5) scIn.nd rfl (Or.inl rfl) (pe_meth (pv 0) T.cl mO GO hr4 bO .nil pass0 (pa_cons pe_int (pa_cons (pe_callB (call_min2 rfl) (by rfl) T.min (by decide +kernel) (pa_cons (pe_call GA hr rfl mA kA bA .nil pass0 (pa_cons (pv 0) (pa_cons (pe_op op_sub (pv 4) (pv 3)) pa_nil))) (pa_cons (pe_op op_add (pe_callB call_len_seq (by rfl) T.len (by decide +kernel) (pa_cons (pv 2) pa_nil)) pe_int) pa_nil))) pa_nil)))) (pss_cons (ps_setDc (i := 6) (own := [("slot", 10), ("count", 11)]) (g := gTup K 2 (gCons (gName 10) (gCons (gName 11) gNil))) (tt := tYes) (by rfl) scIn.nd rfl rfl (sw_dict rfl rfl rfl (by decide +kernel)) (pi_list (pv 2)) (blkOk_by (own := [("slot", 10), ("count", 11)]) (N := inN) (sc := defScope s_infer_starts) (by decide +kernel)) (fun _ _ _ _ _ => pg_tup rfl (pgs_cons (pg_name (i := 10) scIn.nd rfl (Or.inl rfl)) (pgs_cons (pg_name (i := 11) scIn.nd rfl (Or.inl rfl)) pgs_nil))) (fun _ _ _ _ _ => pts_nil) (fun _ _ _ _ _ => pv 10) (fun _ _ _ _ _ => pv 11)) (pss_cons (ps_set (i := 7) scIn.nd rfl (Or.inl rfl) pe_dnewK) (pss_cons (ps_set (i := 8) scIn.nd rfl (Or.inl rfl) (pv 4)) (pss_cons (ps_set (i := 9) scIn.nd rfl (Or.inl rfl) (pe_lst pa_nil)) (pss_cons (ps_for PassesOwn.never rfl (pi_list (pe_lst (StX.pa_star (pv 2) (pa_cons (pe_tup (pa_cons (pv 4) (pa_cons pe_int pa_nil))) pa_nil)))) (pg_tup rfl (pgs_cons (pg_name (i := 10) scIn.nd rfl (Or.inr rfl)) (pgs_cons (pg_name (i := 11) scIn.nd rfl (Or.inl rfl)) pgs_nil))) (pss_cons (ps_if (pt_cmpR op_lt (pv 8) (pv 10) (nomark _)) (pss_one (ps_ret (pe_tup (pa_cons pe_str (pa_cons (pv 8) (pa_cons (pe_dget hu (pv 7) (pv 8) (fun _ _ => rfl)) (pa_cons pe_int pa_nil))))))) pss_nil) (pss_cons (ps_set (i := 12) scIn.nd rfl (Or.inl rfl) (pe_dget2 hu (pv 7) (pv 10) pe_int ⟨by rfl, by rfl, by rfl, by rfl⟩)) (pss_cons (ps_if (pt_cmpR op_lt (pv 11) (pv 12) (nomark _)) (pss_one (ps_ret (pe_tup (pa_cons pe_str (pa_cons (pv 10) (pa_cons (pv 12) (pa_cons (pv 11) pa_nil))))))) pss_nil) (pss_one (ps_if (pt_cmpR op_gt (pv 11) (pv 12) (nomark _)) (pss_cons (ps_expr (pe_bm PySem.F.plainAttrs_list PySem.F.slot_list_append PySem.F.type_list_append mt_append (pv 9) (pa_cons (pe_tup (pa_cons (pv 10) (pa_cons (pe_op op_sub (pv 11) (pv 12)) pa_nil))) pa_nil))) (pss_cons (ps_set (i := 13) scIn.nd rfl (Or.inl rfl) (pe_call GU hr1 rfl mU kU bU .nil pass0 (pa_cons (pe_lc (own := [("offset", 15)]) (g := gName 15) rfl scIn.nd (pi_list (pv 5)) (blkOk_by (own := [("offset", 15)]) (N := inN) (sc := (defScope s_infer_starts)) (by decide +kernel)) (fun _ _ _ _ _ => (pg_name (i := 15) scIn.nd rfl (Or.inl rfl))) (fun _ _ _ _ _ => pts_one (pt_cmpR op_lt (pe_op op_add (pv 10) (pv 15)) (pv 4) (nomark _))) (fun _ _ _ _ _ => (pe_op op_add (pv 10) (pv 15)))) (pa_cons (pv 6) pa_nil)))) (pss_cons (ps_for PassesOwn.never rfl (pi_list (pv 13)) (pg_name (i := 14) scIn.nd rfl (Or.inl rfl)) (pss_one (ps_dput hu (pv 7) (pv 14) (pe_op op_sub (pe_op op_add (pe_dget2 hu (pv 7) (pv 14) pe_int ⟨by rfl, by rfl, by rfl, by rfl⟩) (pv 11)) (pv 12)) rfl))) (pss_one (ps_if (pt_cmp (pc_dnotin hu (pe_ix ix_list (pv 13) (pe_un un_neg pe_int) (fun _ _ => rfl)) (pv 6))) (pss_one (ps_set (i := 8) scIn.nd rfl (Or.inl rfl) (pe_callB (call_min2 rfl) (by rfl) T.min (by decide +kernel) (pa_cons (pv 8) (pa_cons (pe_ix ix_list (pv 13) (pe_un un_neg pe_int) (fun _ _ => rfl)) pa_nil))))) pss_nil))))) pss_nil)))))) (pss_one (ps_ret (pe_tup (pa_cons pe_str (pa_cons (pv 9) pa_nil)))))))))))))), ?_⟩
    -- the checks
    refine ⟨_, rfl, wd, lo, hi, rfl, hw, hlh, ?_⟩
    refine ⟨_, rfl, _, rfl, l, wd, us, es, lo, hi, rfl, hl, hus, hw, ok, fun H1 S1 => ?_⟩
    have hw1 := S1 _ _ hw
    have hl1 := S1 _ _ hl
    have R1 := R.mono S1
    refine ⟨_, rfl, wd, _, rfl, SqT.of hw1, rfl, _, _, rfl, _, _, rfl, rfl, ?_⟩
    -- the offsets
    obtain ⟨dx1, hob1⟩ := R1.ob
    refine ⟨_, rfl, p, dx1, _, rfl, hob1, flds_no _ _ _ (by decide +kernel) (by decide +kernel) (by decide +kernel), ?_⟩
    refine ⟨_, rfl, _, rfl, _, rfl, _, _, rfl, rfl, p, g, t, o, gs, tl, hi - lo, rfl, R1, hHD, fun n H2 S2 hc2 => ?_⟩
    have en := hc2.one hcnt
    subst en
    have S12 := S1.trans S2
    have emin : (if (((us.map V.ref).length : Nat) : Int) + 1 < (n : Int) then (((us.map V.ref).length : Nat) : Int) + 1 else (n : Int)) = ((0 + min n (es.length + 1) : Nat) : Int) := by
      rw [List.length_map, hul]
      split <;> omega
    have R2 := R.mono S12
    refine ⟨_, rfl, l, _, rfl, .inl (SqL.of (S12 _ _ hl)), _, _, rfl, rfl, _, _, rfl, p, g, t, o, gs, tl, 0, min n (es.length + 1), by rw [emin]; rfl, R2, by omega, by omega, fun i hi => (hcnt.low (0 + i) (by omega)).1, fun q H3 hq S3 hq3 => ?_⟩
    have S13 := S12.trans S3
    have hol : (offR gs tl 0 (min n (es.length + 1))).length ≤ 501 := by
      unfold offR
      rw [List.length_map, List.length_range]
      omega
    have hos0 : 0 < min n (es.length + 1) → (offR gs tl 0 (min n (es.length + 1)))[0]? = some 0 := fun z => by
      unfold offR
      rw [List.getElem?_map, List.getElem?_range z]
      show some (off gs tl (0 + 0)) = some 0
      rw [off_low (Nat.zero_le _)]
      rfl
    have hn0 : 0 < n := by
      rcases Nat.eq_zero_or_pos n with z | z
      · have := hcnt.high 0 (by omega) (AttOk.low R.okG (Nat.zero_le _))
        rw [off_low (Nat.zero_le _), pre_zero] at this
        omega
      · exact z
    have hos0 := hos0 (by omega)
    generalize offR gs tl 0 (min n (es.length + 1)) = os at hq3 k hol hos0
    -- what is logged
    have hl3 := S13 _ _ hl
    have hu3 : TupsI H3 us es := hus.kx fun r xs h => S13 _ _ h
    refine ⟨_, rfl, l, rfl, ⟨_, SqL.of hl3⟩, fun D hD => dc_it walk_list (fun i H' => Same H3 H' ∧ ∃ kvs, H' D = some (.dK kvs) ∧ kvs.length ≤ i ∧ ∀ x : Int, (valV kvs (Sum.inl x)).isSome = decide (∃ p ∈ es.take i, p.1 = x)) ⟨same_new hD, [], upd_same, Nat.le_refl _, fun x => by simp [valV]⟩ (fun i H' _ z => SqL.of (z.1 _ _ hl3)) (fun i x H4 H5 hi z y => ?_) (fun H4 z => ?_)⟩
    · obtain ⟨rfl, hx⟩ := y
      obtain ⟨S4, kvs, hk, hkl, hkeys⟩ := z
      obtain ⟨r, e, rfl, he, hr⟩ := hu3.get hx
      have hi2 := (List.getElem?_eq_some_iff.mp he).1
      refine ⟨r, _, rfl, SqT.of (S4 _ _ hr), rfl, _, _, rfl, _, _, rfl, rfl, rfl, yes_t (iteT ?_)⟩
      refine ⟨_, rfl, _, rfl, kvs, Sum.inl e.1, rfl, hk, small_line (by omega), same_app hD S4, _, upd_same, ?_, fun x => ?_⟩
      · have := length_putK kvs (Sum.inl e.1 : Key) (V.int e.2)
        omega
      · rw [valV_put, List.take_add_one, he]
        by_cases ee : x = e.1
        · rw [if_pos (by rw [ee])]
          refine (decide_eq_true ⟨e, List.mem_append_right _ (List.mem_singleton.mpr rfl), ee.symm⟩).symm
        · rw [if_neg (fun z => ee (Sum.inl.inj z)), hkeys]
          refine decide_eq_decide.mpr ⟨fun ⟨p, hp, e2⟩ => ⟨p, List.mem_append_left _ hp, e2⟩, fun ⟨p, hp, e2⟩ => ?_⟩
          rcases List.mem_append.mp hp with hp | hp
          · exact ⟨p, hp, e2⟩
          · have : p = e := List.mem_singleton.mp hp
            exact absurd (by rw [← e2, this]) ee
    obtain ⟨S4, lkv, hD4, hlkl, hlk⟩ := z
    have hlk : ∀ x : Int, (valV lkv (Sum.inl x)).isSome = logB es x := fun x => by
      have := hlk x
      rwa [List.length_map, hul, List.take_length] at this
    have S14 := S13.trans S4
    have hq4 := S4 _ _ hq3
    have hl4 := S14 _ _ hl
    -- caused, clash, starts
    intro d hd
    have s5 := same_new (o := .dK []) hd
    have hd5 : (upd H4 d (.dK [])) d = some (.dK (kvI [] (inf0 hi).cf)) := upd_same
    have S15 := S14.trans s5
    have hq5 := s5 _ _ hq4
    have hD5 := s5 _ _ hD4
    have ddH : H d = none := S14.free hd
    have ndD : D ≠ d := ne_of_none hD4 hd
    generalize upd H4 d (.dK []) = H5 at hd5 S15 hq5 hD5
    refine ⟨_, rfl, by show 0 ≤ sizeLine; decide, fun sl hsl => ?_⟩
    have s6 := same_new (o := .lst []) hsl
    have hsl6 : (upd H5 sl (.lst [])) sl = some (.lst (([] : List Addr).map V.ref)) := upd_same
    have S16 := S15.trans s6
    have hq6 := s6 _ _ hq5
    have hD6 := s6 _ _ hD5
    have hd6 := s6 _ _ hd5
    have dsl : H sl = none := S15.free hsl
    have nsd : sl ≠ d := (ne_of_none hd5 hsl).symm
    have nsD : D ≠ sl := ne_of_none hD5 hsl
    generalize upd H5 sl (.lst []) = H6 at hsl6 S16 hq6 hD6 hd6
    refine ⟨_, rfl, l, _, rfl, .inr (SqL.of (S16 _ _ hl)), _, rfl, by show 2 ≤ sizeLine; decide, fun tp htp => ?_⟩
    have s7 := same_new (o := .tup [V.int hi, V.int 0]) htp
    have htp7 : (upd H6 tp (.tup [V.int hi, V.int 0])) tp = some (.tup [V.int hi, V.int 0]) := upd_same
    have S17 := S16.trans s7
    have hq7 := s7 _ _ hq6
    have hD7 := s7 _ _ hD6
    have hd7 := s7 _ _ hd6
    have hsl7 := s7 _ _ hsl6
    have t7 : TupsI (upd H6 tp (.tup [V.int hi, V.int 0])) (us ++ [tp]) (es ++ [(hi, 0)]) := (hus.kx fun r xs h => S17 _ _ h).snoc htp7
    generalize upd H6 tp (.tup [V.int hi, V.int 0]) = H7 at htp7 S17 hq7 hD7 hd7 hsl7 t7
    refine ⟨by rw [List.length_append, List.length_map, hul]; exact small1000 (by show es.length ≤ 1000; omega), fun L hL => ?_⟩
    have s8 := same_new (o := .lst (us.map V.ref ++ [V.ref tp])) hL
    have hL8 : (upd H7 L (.lst (us.map V.ref ++ [V.ref tp]))) L = some (.lst ((us ++ [tp]).map V.ref)) := by rw [upd_same, List.map_append]; rfl
    have S18 := S17.trans s8
    have hq8 := s8 _ _ hq7
    have hD8 := s8 _ _ hD7
    have hd8 := s8 _ _ hd7
    have hsl8 := s8 _ _ hsl7
    have t8 : TupsI (upd H7 L (.lst (us.map V.ref ++ [V.ref tp]))) (us ++ [tp]) (es ++ [(hi, 0)]) := t7.kx fun r xs h => s8 _ _ h
    have nLd : L ≠ d := (ne_of_none hd7 hL).symm
    have nLs : L ≠ sl := (ne_of_none hsl7 hL).symm
    generalize upd H7 L (.lst (us.map V.ref ++ [V.ref tp])) = H8 at hL8 S18 hq8 hD8 hd8 hsl8 t8
    have nqd : q ≠ d := ne_of hq8 hd8 (by intro z; cases z)
    have nqs : q ≠ sl := ne_of_none hq5 hsl
    have fin : ∀ H', (∀ c u, H8 c = some u → c ≠ d → c ≠ sl → H' c = some u) → Same H H' := fun H' B c u e => B c u (S18 _ _ e) (ne_of_none e ddH) (ne_of_none e dsl)
    have nDs : D ≠ sl := nsD
    have hlen' : (us ++ [tp]).length = (es ++ [(hi, (0 : Int))]).length := t8.1
    refine ⟨L, rfl, ⟨_, SqL.of hL8⟩, for_list (a := L) (xs := (us ++ [tp]).map V.ref) (fun i σ' H' => ∃ (v10 v11 v12 v13 v14 v15 : Option V) (st : InfSt) (ks : List Int) (ws : List Addr), σ' = [some (.ref p), some (.ref wd), some (.ref l), some (.int lo), some (.int hi), some (.ref q), some (.ref D), some (.ref d), some (.int st.clash), some (.ref sl), v10, v11, v12, v13, v14, v15] ∧
      (∀ c u, H8 c = some u → c ≠ d → c ≠ sl → H' c = some u) ∧ H' d = some (.dK (kvI ks st.cf)) ∧ H' sl = some (.lst (ws.map V.ref)) ∧ TupsI H' ws st.starts ∧ ks.length ≤ 501 * i ∧ (∀ x, x ∉ ks → st.cf x = 0) ∧ (∀ x, 0 ≤ st.cf x) ∧ (st.clash < hi → st.clash ∈ ks) ∧ st.clash ≤ hi ∧ st.starts.length ≤ i ∧
      infRes os hi (logB es) (es ++ [(hi, 0)]) (inf0 hi) = infRes os hi (logB es) ((es ++ [(hi, 0)]).drop i) st)
      ⟨none, none, none, none, none, none, inf0 hi, [], [], rfl, fun c u e _ _ => e, hd8, hsl8, TupsI.nil, Nat.le_refl _, fun _ _ => rfl, fun _ => Int.le_refl _, fun z => absurd z (Int.lt_irrefl _), Int.le_refl _, Nat.le_refl _, rfl⟩ (fun i σ' H' _ ⟨_, _, _, _, _, _, _, _, _, _, B, _⟩ => SqL.of (B _ _ hL8 nLd nLs)) ?_ ?_⟩
    · rintro i x σ' H9 hx ⟨v10, v11, v12, v13, v14, v15, st, ks, ws, rfl, B9, hd9, hs9, tw, hkl, h0, hpos, hcl, hchi, hsl9, hres⟩
      obtain ⟨r, e, rfl, he, hr8⟩ := t8.get hx
      have hi1 := (List.getElem?_eq_some_iff.mp he).1
      have hi2 : i < es.length + 1 := by rw [List.length_append] at hi1; exact hi1
      have nrd : r ≠ d := ne_of hr8 hd8 (by intro z; cases z)
      have nrs : r ≠ sl := ne_of hr8 hsl8 (by intro z; cases z)
      have hr9 := B9 _ _ hr8 nrd nrs
      have edrop : (es ++ [(hi, (0 : Int))]).drop i = e :: (es ++ [(hi, (0 : Int))]).drop (i + 1) := by
        rw [List.drop_eq_getElem_cons hi1, (List.getElem?_eq_some_iff.mp he).2]
      rw [edrop] at hres
      have hres : infRes os hi (logB es) (es ++ [(hi, 0)]) (inf0 hi) = if st.clash < e.1 then .inl (st.clash, st.cf st.clash, 0) else if e.2 < st.cf e.1 then .inl (e.1, st.cf e.1, e.2) else infRes os hi (logB es) ((es ++ [(hi, 0)]).drop (i + 1)) (infStep os hi (logB es) st e) := hres
      have hehi : e.1 ≤ hi ∧ (e ∈ es ∨ e = (hi, 0)) := by
        rcases List.mem_append.mp (List.mem_of_getElem? he) with z | z
        · have := ok.bd e z
          exact ⟨by omega, .inl z⟩
        · have z := List.mem_singleton.mp z
          exact ⟨by rw [z]; exact Int.le_refl _, .inr z⟩
      refine ⟨r, _, rfl, SqT.of hr9, rfl, _, _, rfl, _, _, rfl, rfl, ?_⟩
      refine ⟨_, rfl, _, rfl, _, _, rfl, rfl, _, rfl, ?_⟩
      by_cases h1 : st.clash < e.1
      · rw [if_pos h1] at hres
        refine iteTb (decide_eq_true h1) ?_
        have hck := hcl (by omega)
        have hg : DGet H9 d (kV (Sum.inl st.clash)) (some (V.int (st.cf st.clash))) := by
          have g := DGet.k (k := Sum.inl st.clash) hd9
          rw [kvI_val, if_pos hck] at g
          exact g
        refine ⟨_, rfl, _, rfl, _, rfl, d, _, rfl, hg, by show 4 ≤ sizeLine; decide, fun tq htq => ?_⟩
        refine k tq _ ((fin H9 B9).trans (same_new htq)) ?_ (fun x l e => by rw [upd_same] at e; cases e)
        rw [hres]
        exact upd_same
      rw [if_neg h1] at hres
      refine iteFb (decide_eq_false h1) ?_
      refine ⟨_, rfl, d, rfl, .inl ⟨_, .inl hd9⟩, _, rfl, _, DGet.k (k := Sum.inl e.1) hd9, ?_⟩
      rw [kvI_get0 h0]
      refine ⟨_, rfl, _, rfl, _, _, rfl, rfl, _, rfl, ?_⟩
      by_cases h2 : e.2 < st.cf e.1
      · rw [if_pos h2] at hres
        refine iteTb (decide_eq_true h2) ?_
        refine ⟨_, rfl, _, rfl, _, rfl, by show 4 ≤ sizeLine; decide, fun tq htq => ?_⟩
        refine k tq _ ((fin H9 B9).trans (same_new htq)) ?_ (fun x l e => by rw [upd_same] at e; cases e)
        rw [hres]
        exact upd_same
      rw [if_neg h2] at hres
      refine iteFb (decide_eq_false h2) ?_
      refine ⟨_, rfl, _, rfl, _, _, rfl, rfl, _, rfl, ?_⟩
      by_cases h3 : st.cf e.1 < e.2
      case neg =>
        have est : infStep os hi (logB es) st e = st := if_neg h3
        rw [est] at hres
        exact iteFb (decide_eq_false h3) ⟨_, _, _, _, _, _, st, ks, ws, rfl, B9, hd9, hs9, tw, by omega, h0, hpos, hcl, hchi, by omega, hres⟩
      refine iteTb (decide_eq_true h3) ?_
      have ehi : e.1 < hi := by
        rcases hehi.2 with z | z
        · exact (ok.bd e z).2.1
        · have := hpos e.1
          rw [z] at h3 this
          have h3 : st.cf hi < 0 := h3
          have this : 0 ≤ st.cf hi := this
          omega
      have est : infStep os hi (logB es) st e = { cf := fun x => st.cf x + (e.2 - st.cf e.1) * ((infSlots os hi (logB es) e.1).count x : Nat), clash := if logB es ((infSlots os hi (logB es) e.1).getLastD 0) then st.clash else min st.clash ((infSlots os hi (logB es) e.1).getLastD 0), starts := st.starts ++ [(e.1, e.2 - st.cf e.1)] } := if_pos h3
      rw [est] at hres
      have slne : infSlots os hi (logB es) e.1 ≠ [] := infSlots_ne hos0 ehi
      have sllen : (infSlots os hi (logB es) e.1).length ≤ 501 := Nat.le_trans (infSlots_len _ _ _ _) hol
      have slhi : ∀ y ∈ infSlots os hi (logB es) e.1, y < hi := fun y hy => infSlots_hi hy
      -- one more start
      refine ⟨_, rfl, .inl ⟨rfl, _, SqL.of hs9⟩, _, rfl, _, rfl, _, rfl, _, _, rfl, rfl, by show 2 ≤ sizeLine; decide, fun t9 ht9 => ?_⟩
      have s10 := same_new (o := .tup [V.int e.1, V.int (e.2 - st.cf e.1)]) ht9
      have nst : sl ≠ t9 := ne_of_none hs9 ht9
      have ndt : d ≠ t9 := ne_of_none hd9 ht9
      refine ⟨sl, _, _, rfl, rfl, s10 _ _ hs9, by rw [List.length_map, tw.1]; exact small1000 (by omega), ?_⟩
      have B11 : ∀ c u, H8 c = some u → c ≠ d → c ≠ sl → (upd (upd H9 t9 (.tup [V.int e.1, V.int (e.2 - st.cf e.1)])) sl (.lst (ws.map V.ref ++ [V.ref t9]))) c = some u := fun c u e1 n1 n2 => by
        rw [upd_ne n2]
        exact s10 _ _ (B9 c u e1 n1 n2)
      have hd11 : (upd (upd H9 t9 (.tup [V.int e.1, V.int (e.2 - st.cf e.1)])) sl (.lst (ws.map V.ref ++ [V.ref t9]))) d = some (.dK (kvI ks st.cf)) := by
        rw [upd_ne nsd.symm]
        exact s10 _ _ hd9
      have hs11 : (upd (upd H9 t9 (.tup [V.int e.1, V.int (e.2 - st.cf e.1)])) sl (.lst (ws.map V.ref ++ [V.ref t9]))) sl = some (.lst ((ws ++ [t9]).map V.ref)) := by
        rw [upd_same, List.map_append]
        rfl
      have tw11 : TupsI (upd (upd H9 t9 (.tup [V.int e.1, V.int (e.2 - st.cf e.1)])) sl (.lst (ws.map V.ref ++ [V.ref t9]))) (ws ++ [t9]) (st.starts ++ [(e.1, e.2 - st.cf e.1)]) := by
        refine TupsI.snoc (tw.kx fun r xs h => ?_) ?_
        · rw [upd_ne (ne_of h hs9 (by intro z; cases z))]
          exact s10 _ _ h
        · rw [upd_ne nst.symm, upd_same]
      generalize (upd (upd H9 t9 (.tup [V.int e.1, V.int (e.2 - st.cf e.1)])) sl (.lst (ws.map V.ref ++ [V.ref t9]))) = H11 at B11 hd11 hs11 tw11
      have hq11 := B11 _ _ hq8 nqd nqs
      have hD11 := B11 _ _ hD8 ndD nDs
      -- its slots
      refine ⟨_, rfl, q, rfl, ⟨_, SqL.of hq11⟩, fun D2 hD2 => lc_sel (a := q) (xs := os.map V.int) (fun j => (os[j]?).bind fun o => if decide (e.1 + o < hi) then some (V.int (e.1 + o)) else none) (SqL.of hq11) hD2 (by rw [List.length_map]; omega) (fun j x H12 Q12 hx Sx qq => ?_) (fun H12 Sx h12 => ?_)⟩
      · obtain ⟨z, hz, rfl⟩ := map_of hx
        have qq : ∀ H', Same H12 H' → Q12 (if decide (e.1 + z < hi) then some (V.int (e.1 + z)) else none) H' := fun H' S' => by
          have := qq H' S'
          rw [hz] at this
          exact this
        refine ⟨rfl, ?_⟩
        refine ⟨_, rfl, _, rfl, _, _, rfl, rfl, _, rfl, _, _, rfl, rfl, _, rfl, ?_⟩
        by_cases hb : e.1 + z < hi
        · rw [decide_eq_true hb] at qq
          exact iteTb (decide_eq_true hb) ⟨_, rfl, _, rfl, _, _, rfl, rfl, qq H12 (Same.refl _)⟩
        · rw [decide_eq_false hb] at qq
          exact iteFb (decide_eq_false hb) (qq H12 (Same.refl _))
      have h12 : H12 D2 = some (.lst (((os.filter fun o => decide (e.1 + o < hi)).map fun o => e.1 + o).map V.int)) := by
        rw [List.length_map, selTo_fm os (fun o => decide (e.1 + o < hi)) (fun o => e.1 + o) _ (Nat.le_refl _), List.take_length] at h12
        exact h12
      have hfl : ((os.filter fun o => decide (e.1 + o < hi)).map fun o => e.1 + o).length ≤ 501 := by
        rw [List.length_map]
        exact Nat.le_trans (List.length_filter_le _ _) hol
      refine ⟨_, rfl, D2, D, _, lkv, logB es, rfl, h12, by omega, Sx _ _ hD11, hlk, fun a13 H13 Sy h13 => ?_⟩
      have h13 : H13 a13 = some (.lst ((infSlots os hi (logB es) e.1).map V.int)) := h13
      have Sxy := Sx.trans Sy
      have hd13 := Sxy _ _ hd11
      have hs13 := Sxy _ _ hs11
      have hD13 := Sxy _ _ hD11
      have tw13 : TupsI H13 (ws ++ [t9]) (st.starts ++ [(e.1, e.2 - st.cf e.1)]) := tw11.kx fun r xs h => Sxy _ _ h
      have n13d : a13 ≠ d := ne_of h13 hd13 (by intro z; cases z)
      have nsd' : sl ≠ d := nsd
      generalize infSlots os hi (logB es) e.1 = sls at hres slne sllen slhi h13
      -- what they cause
      refine ⟨_, rfl, a13, rfl, ⟨_, SqL.of h13⟩, for_list (a := a13) (xs := sls.map V.int) (fun j σ' H' => ∃ (w10 w14 w15 : Option V) (ks2 : List Int), σ' = [some (.ref p), some (.ref wd), some (.ref l), some (.int lo), some (.int hi), some (.ref q), some (.ref D), some (.ref d), some (.int st.clash), some (.ref sl), w10, some (.int e.2), some (.int (st.cf e.1)), some (.ref a13), w14, w15] ∧
        (∀ c u, H13 c = some u → c ≠ d → H' c = some u) ∧ H' d = some (.dK (kvI ks2 fun x => st.cf x + (e.2 - st.cf e.1) * ((sls.take j).count x : Nat))) ∧ ks2.length ≤ ks.length + j ∧ (∀ x ∈ ks, x ∈ ks2) ∧ (∀ x ∈ sls.take j, x ∈ ks2) ∧ ∀ x, x ∉ ks2 → x ∉ ks ∧ x ∉ sls.take j)
        ⟨_, _, _, ks, rfl, fun c u e _ => e, ?_, Nat.le_refl _, fun x hx => hx, (fun x hx => nomatch hx), fun x hx => ⟨hx, fun z => nomatch z⟩⟩ (fun j σ' H' _ ⟨_, _, _, _, _, B, _⟩ => SqL.of (B _ _ h13 n13d)) ?_ ?_⟩
      · have ef : (fun x => st.cf x + (e.2 - st.cf e.1) * ((sls.take 0).count x : Nat)) = st.cf := funext fun x => by
          rw [List.take_zero, List.count_nil]
          show st.cf x + (e.2 - st.cf e.1) * 0 = st.cf x
          rw [Int.mul_zero, Int.add_zero]
        rw [ef]
        exact hd13
      · rintro j x σ' H14 hx ⟨w10, w14, w15, ks2, rfl, B14, hd14, hk2, hin1, hin2, hout⟩
        obtain ⟨y, hy, rfl⟩ := map_of hx
        have hj := (List.getElem?_eq_some_iff.mp hy).1
        have h0j : ∀ x, x ∉ ks2 → st.cf x + (e.2 - st.cf e.1) * ((sls.take j).count x : Nat) = 0 := fun x hx => by
          obtain ⟨a, b⟩ := hout x hx
          rw [h0 x a, List.count_eq_zero.mpr b]
          simp
        refine ⟨_, rfl, d, rfl, .inl ⟨_, .inl hd14⟩, _, rfl, _, DGet.k (k := Sum.inl y) hd14, ?_⟩
        rw [kvI_get0 h0j]
        refine ⟨_, rfl, _, _, rfl, rfl, _, rfl, _, _, rfl, rfl, _, rfl, _, rfl, d, _, rfl, DPut.k (k := Sum.inl y) hd14 (by rw [kvI_len]; exact Nat.lt_of_le_of_lt (show ks2.length ≤ 500000 by omega) (by decide)), ?_⟩
        refine ⟨_, _, _, if y ∈ ks2 then ks2 else ks2 ++ [y], rfl, fun c u e1 n => by rw [upd_ne n]; exact B14 c u e1 n, ?_, ?_, fun x hx => ?_, fun x hx => ?_, fun x hx => ?_⟩
        · rw [upd_same, kvI_put]
          congr 3
          funext x
          rw [List.take_add_one, hy, List.count_append]
          by_cases hxy : x = y
          · subst hxy
            rw [if_pos rfl]
            have : List.count x [x] = 1 := by simp
            show _ = st.cf x + (e.2 - st.cf e.1) * ((List.count x (sls.take j) + List.count x [x] : Nat) : Int)
            rw [this]
            have e3 : ((List.count x (sls.take j) + 1 : Nat) : Int) = (List.count x (sls.take j) : Int) + 1 := by omega
            rw [e3, Int.mul_add, Int.mul_one]
            omega
          · rw [if_neg hxy]
            have : List.count x [y] = 0 := by simp [Ne.symm hxy]
            show _ = st.cf x + (e.2 - st.cf e.1) * ((List.count x (sls.take j) + List.count x [y] : Nat) : Int)
            rw [this, Nat.add_zero]
        · split
          · omega
          · rw [List.length_append]
            show ks2.length + 1 ≤ _
            omega
        · split
          · exact hin1 x hx
          · exact List.mem_append_left _ (hin1 x hx)
        · rw [List.take_add_one, hy] at hx
          have hc : x ∈ ks2 ∨ x = y := by
            rcases List.mem_append.mp hx with hx | hx
            · exact .inl (hin2 x hx)
            · exact .inr (List.mem_singleton.mp hx)
          split
          · rename_i hyk
            rcases hc with hc | hc
            · exact hc
            · rw [hc]
              exact hyk
          · rcases hc with hc | hc
            · exact List.mem_append_left _ hc
            · exact List.mem_append_right _ (List.mem_singleton.mpr hc)
        · have hx2 : x ∉ ks2 ∧ x ≠ y := by
            split at hx
            · rename_i hyk
              exact ⟨hx, fun z => hx (z ▸ hyk)⟩
            · exact ⟨fun z => hx (List.mem_append_left _ z), fun z => hx (List.mem_append_right _ (List.mem_singleton.mpr z))⟩
          obtain ⟨a, b⟩ := hout x hx2.1
          refine ⟨a, fun z => ?_⟩
          rw [List.take_add_one, hy] at z
          rcases List.mem_append.mp z with z | z
          · exact b z
          · exact hx2.2 (List.mem_singleton.mp z)
      · rintro σ' H14 ⟨w10, w14, w15, ks2, rfl, B14, hd14, hk2, hin1, hin2, hout⟩
        rw [List.length_map, List.take_length] at hd14 hin2
        rw [List.length_map] at hk2
        have hout : ∀ x, x ∉ ks2 → x ∉ ks ∧ x ∉ sls := fun x hx => by
          have := hout x hx
          rwa [List.length_map, List.take_length] at this
        have h14 := B14 _ _ h13 n13d
        have hD14 := B14 _ _ hD13 ndD
        have hs14 := B14 _ _ hs13 nsd
        have tw14 : TupsI H14 (ws ++ [t9]) (st.starts ++ [(e.1, e.2 - st.cf e.1)]) := tw13.kx fun r xs h => B14 _ _ h (ne_of h hd13 (by intro z; cases z))
        have lastm : sls.getLastD 0 ∈ sls := by
          rw [List.getLastD_eq_getLast?, List.getLast?_eq_some_getLast slne]
          exact List.getLast_mem slne
        have h0' : ∀ x, x ∉ ks2 → st.cf x + (e.2 - st.cf e.1) * (sls.count x : Nat) = 0 := fun x hx => by
          obtain ⟨a, b⟩ := hout x hx
          rw [h0 x a, List.count_eq_zero.mpr b]
          simp
        have hpos' : ∀ x, 0 ≤ st.cf x + (e.2 - st.cf e.1) * (sls.count x : Nat) := fun x => by
          have a := hpos x
          have b : 0 ≤ (e.2 - st.cf e.1) * ((sls.count x : Nat) : Int) := Int.mul_nonneg (by omega) (by omega)
          omega
        have B' : ∀ c u, H8 c = some u → c ≠ d → c ≠ sl → H14 c = some u := fun c u e1 n1 n2 => B14 _ _ (Sxy _ _ (B11 c u e1 n1 n2)) n1
        have lst9 : (st.starts ++ [(e.1, e.2 - st.cf e.1)]).length ≤ i + 1 := by
          rw [List.length_append]
          show st.starts.length + 1 ≤ i + 1
          omega
        refine ⟨_, rfl, _, rfl, a13, _, _, _, rfl, rfl, SqL.of h14, last_at slne, _, rfl, D, _, rfl, DGet.k (k := (Sum.inl (sls.getLastD 0) : Key)) hD14, _, rfl, ?_⟩
        rw [hlk]
        cases hlg : logB es (sls.getLastD 0) with
        | true =>
          rw [hlg] at hres
          exact iteFb rfl ⟨_, _, _, _, _, _, ⟨fun x => st.cf x + (e.2 - st.cf e.1) * (sls.count x : Nat), st.clash, st.starts ++ [(e.1, e.2 - st.cf e.1)]⟩, ks2, ws ++ [t9], rfl, B', hd14, hs14, tw14, by omega, h0', hpos', fun z => hin1 _ (hcl z), hchi, lst9, hres⟩
        | false =>
          rw [hlg] at hres
          refine iteTb rfl ?_
          refine ⟨_, rfl, _, rfl, _, rfl, a13, _, _, _, rfl, rfl, SqL.of h14, last_at slne, _, _, rfl, ?_⟩
          have emin : (if sls.getLastD 0 < st.clash then sls.getLastD 0 else st.clash) = min st.clash (sls.getLastD 0) := by
            split <;> omega
          rw [emin]
          have lh := slhi _ lastm
          refine ⟨_, _, _, _, _, _, ⟨fun x => st.cf x + (e.2 - st.cf e.1) * (sls.count x : Nat), min st.clash (sls.getLastD 0), st.starts ++ [(e.1, e.2 - st.cf e.1)]⟩, ks2, ws ++ [t9], rfl, B', hd14, hs14, tw14, by omega, h0', hpos', fun z => ?_, by show min st.clash _ ≤ hi; omega, lst9, hres⟩
          show min st.clash (sls.getLastD 0) ∈ ks2
          rcases Int.lt_or_le (sls.getLastD 0) st.clash with y | y
          · rw [show min st.clash (sls.getLastD 0) = sls.getLastD 0 by omega]
            exact hin2 _ lastm
          · rw [show min st.clash (sls.getLastD 0) = st.clash by omega]
            exact hin1 _ (hcl (by omega))
    · rintro σ' H9 ⟨v10, v11, v12, v13, v14, v15, st, ks, ws, rfl, B9, hd9, hs9, tw, _, _, _, _, _, _, hres⟩
      rw [List.length_map, hlen', List.drop_length] at hres
      refine ⟨_, rfl, by show 2 ≤ sizeLine; decide, fun tq htq => ?_⟩
      have s10 := same_new (o := .tup [V.str "starts", .ref sl]) htq
      refine k tq _ ((fin H9 B9).trans s10) ?_ (fun x l e => by rw [upd_same] at e; cases e; exact dsl)
      rw [hres]
      exact ⟨sl, ws, upd_same, s10 _ _ hs9, tw.kx fun r xs h => s10 _ _ h⟩
end
end RS
namespace RS
open PySem L2
/-! ### the log of starts in the window gives back its starts -/
/-- how many of some starts have an attempt in a slot -/
def hits (h : Int → Int → Bool) (bs : List Int) (x : Int) : Int := ((bs.filter fun b => h b x).length : Nat)
theorem cntOf_append (a b : List (Int × Int)) (x : Int) : cntOf (a ++ b) x = cntOf a x + cntOf b x := by
  unfold cntOf
  rw [List.filter_append, List.map_append, List.sum_append]
theorem cntOf_ones (l : List Int) (x : Int) : cntOf (l.map fun s => (s, (1 : Int))) x = (l.count x : Nat) := by
  induction l with
  | nil => rfl
  | cons y l ih =>
    show cntOf ([(y, 1)] ++ l.map fun s => (s, (1 : Int))) x = _
    rw [cntOf_append, ih, List.count_cons]
    unfold cntOf
    by_cases e : y = x
    · subst e
      simp
      omega
    · simp [e]
theorem nodup_count {l : List Int} (h : l.Nodup) (x : Int) : l.count x = if x ∈ l then 1 else 0 := by
  by_cases hx : x ∈ l
  · rw [if_pos hx]
    have a := List.nodup_iff_count.mp h x
    have b := List.count_pos_iff.mpr hx
    omega
  · rw [if_neg hx]
    exact List.count_eq_zero.mpr hx
theorem hits_is {S : Int → List Int} (x : Int) : ∀ bs : List Int, (∀ b ∈ bs, (S b).Nodup) → cntOf (bs.flatMap fun b => (S b).map fun s => (s, (1 : Int))) x = hits (fun b x => decide (x ∈ S b)) bs x
  | [], _ => rfl
  | b :: bs, nd => by
    rw [List.flatMap_cons, cntOf_append, hits_is x bs (fun c hc => nd c (List.mem_cons_of_mem _ hc)), cntOf_ones, nodup_count (nd b (List.mem_cons_self ..))]
    unfold hits
    rw [List.filter_cons]
    by_cases h : x ∈ S b
    · rw [if_pos h, if_pos (decide_eq_true h), List.length_cons]
      omega
    · rw [if_neg h, if_neg (fun z => h (of_decide_eq_true z))]
      omega
theorem cnt_two (u p q : Int → Bool) (no : ∀ b, p b = true → q b = true → False) : ∀ bs : List Int, (bs.filter fun b => u b && (p b || q b)).length = (bs.filter fun b => u b && p b).length + (bs.filter fun b => u b && q b).length
  | [] => rfl
  | b :: bs => by
    have ih := cnt_two u p q no bs
    have nb := no b
    cases hp : p b with
    | true =>
      have hq : q b = false := by
        cases hq : q b with
        | true => exact absurd (nb hp hq) id
        | false => rfl
      cases hu : u b <;> simp [List.filter_cons, hp, hq, hu, ih]
      omega
    | false =>
      cases hq : q b <;> cases hu : u b <;> simp [List.filter_cons, hp, hq, hu, ih]
      omega
/-- two parts of the starts that have nothing in common -/
theorem hits_two (h : Int → Int → Bool) (p q : Int → Bool) (x : Int) (no : ∀ b, p b = true → q b = true → False) (bs : List Int) : hits h (bs.filter fun b => p b || q b) x = hits h (bs.filter p) x + hits h (bs.filter q) x := by
  have := cnt_two (fun b => h b x) p q no bs
  unfold hits
  simp only [List.filter_filter]
  rw [this]
  omega
theorem hits_one (h : Int → Int → Bool) (s x : Int) : ∀ bs : List Int, hits h (bs.filter fun b => decide (b = s)) x = (bs.count s : Nat) * (if h s x then 1 else 0)
  | [] => by simp [hits]
  | b :: bs => by
    have ih := hits_one h s x bs
    unfold hits at ih ⊢
    rw [List.filter_cons, List.count_cons]
    by_cases e : b = s
    · subst e
      rw [if_pos (decide_eq_true rfl), List.filter_cons]
      by_cases hh : h b x = true
      · rw [if_pos hh] at ih ⊢
        rw [List.length_cons, if_pos hh]
        simp only [beq_self_eq_true, if_true]
        omega
      · rw [if_neg hh] at ih ⊢
        rw [if_neg hh]
        simp only [Int.mul_zero] at ih ⊢
        exact ih
    · rw [if_neg (by rw [decide_eq_false e]; simp)]
      have : (b == s) = false := beq_false_of_ne e
      rw [this]
      simpa using ih
theorem slot_mem {gs : List Int} {tl : Tl} {b x : Int} {n : Nat} : x ∈ slotR gs tl b 0 n ↔ ∃ i, i < n ∧ x = b + off gs tl i := by
  unfold slotR offR
  rw [List.map_map, List.mem_map]
  constructor
  · rintro ⟨i, hi, rfl⟩
    exact ⟨i, List.mem_range.mp hi, by show b + off gs tl (0 + i) = _; rw [Nat.zero_add]⟩
  · rintro ⟨i, hi, rfl⟩
    exact ⟨i, List.mem_range.mpr hi, by show b + off gs tl (0 + i) = _; rw [Nat.zero_add]⟩
theorem slot_asc {gs : List Int} {tl : Tl} (okG : GapsOk gs) (okT : TlOk gs.length tl) {b : Int} {n : Nat} (h : ∀ i, i < n → AttOk gs tl i) : (slotR gs tl b 0 n).Pairwise (· < ·) := by
  unfold slotR offR
  rw [List.map_map]
  refine List.pairwise_map.mpr ((List.pairwise_lt_range (n := n)).imp_of_mem fun {i j} hi hj hij => ?_)
  show b + off gs tl (0 + i) < b + off gs tl (0 + j)
  rw [Nat.zero_add, Nat.zero_add]
  have := off_lt okG okT hij (h j (List.mem_range.mp hj)).fin
  omega
end RS
namespace RS
open PySem L2
theorem filt_range {f : Nat → Int} {p : Int → Bool} {k : Nat} : ∀ N : Nat, (∀ i, i < N → p (f i) = decide (i < k)) → ((List.range N).map f).filter p = (List.range (min k N)).map f
  | 0, _ => by rw [Nat.min_zero]; rfl
  | N + 1, h => by
    rw [List.range_succ, List.map_append, List.filter_append, filt_range N fun i hi => h i (by omega)]
    show _ ++ [f N].filter p = _
    rw [List.filter_cons, h N (by omega)]
    by_cases z : N < k
    · rw [decide_eq_true z, if_pos rfl, show min k N = N by omega, show min k (N + 1) = N + 1 by omega, List.range_succ, List.map_append]
      rfl
    · rw [decide_eq_false z, if_neg (by simp), show min k N = k by omega, show min k (N + 1) = k by omega]
      show _ ++ [] = _
      rw [List.append_nil]
theorem sum_least_len : ∀ {l m : List Int}, l.Nodup → (∀ x ∈ l, x ∈ m) → l.length ≤ m.length
  | [], _, _, _ => Nat.zero_le _
  | x :: l, m, h, hs => by
    obtain ⟨h1, h2⟩ := List.nodup_cons.mp h
    have ih := sum_least_len (l := l) (m := m.erase x) h2 fun y hy => (List.mem_erase_of_ne (fun (e : y = x) => h1 (e ▸ hy))).mpr (hs y (List.mem_cons_of_mem _ hy))
    have hm := hs x (List.mem_cons_self ..)
    rw [List.length_erase_of_mem hm] at ih
    have : 0 < m.length := List.length_pos_of_mem hm
    rw [List.length_cons]
    omega
/-- the starts among some slots, with their numbers -/
def dueL (bs : List Int) (es : List (Int × Int)) : List (Int × Int) := (es.filter fun e => decide (0 < bs.count e.1)).map fun e => (e.1, ((bs.count e.1 : Nat) : Int))
section
variable {gs : List Int} {tl : Tl} {lo hi : Int} {bs : List Int} {fN : Int → Nat} {es : List (Int × Int)} {m : Nat}
  (okG : GapsOk gs) (okT : TlOk gs.length tl) (hb : ∀ b ∈ bs, lo ≤ b ∧ b < hi) (hN : ∀ b ∈ bs, CntB gs tl (hi - b) (fN b))
  (lg : LogOf (bs.flatMap fun b => (slotR gs tl b 0 (fN b)).map fun s => (s, (1 : Int))) es) (hm : CntB gs tl (hi - lo) m)
include okG okT hb hN
theorem in_pos {b : Int} (h : b ∈ bs) : 0 < fN b := by
  rcases Nat.eq_zero_or_pos (fN b) with z | z
  · have := (hN b h).high 0 (by omega) (AttOk.low okG (Nat.zero_le _))
    rw [off_low (Nat.zero_le _), pre_zero] at this
    have := (hb b h).2
    omega
  · exact z
theorem in_asc {b : Int} (h : b ∈ bs) : (slotR gs tl b 0 (fN b)).Pairwise (· < ·) := slot_asc okG okT fun i hi => ((hN b h).low i hi).1
theorem in_nd {b : Int} (h : b ∈ bs) : (slotR gs tl b 0 (fN b)).Nodup := (in_asc okG okT hb hN h).imp fun {x y} z e => by omega
theorem in_self {b : Int} (h : b ∈ bs) : b ∈ slotR gs tl b 0 (fN b) := slot_mem.mpr ⟨0, in_pos okG okT hb hN h, by rw [off_low (Nat.zero_le _), pre_zero]; omega⟩
theorem in_bd {b x : Int} (h : b ∈ bs) (hx : x ∈ slotR gs tl b 0 (fN b)) : b ≤ x ∧ x < hi := by
  obtain ⟨i, hi', rfl⟩ := slot_mem.mp hx
  obtain ⟨h1, h2⟩ := (hN b h).low i hi'
  have := off_le okG okT (Nat.zero_le i) h1
  rw [off_low (Nat.zero_le _), pre_zero] at this
  omega
include lg
theorem in_mem (x : Int) : (∃ e ∈ es, e.1 = x) ↔ ∃ b ∈ bs, x ∈ slotR gs tl b 0 (fN b) := by
  rw [lg.mem]
  constructor
  · rintro ⟨p, hp, rfl⟩
    obtain ⟨b, hbm, hp⟩ := List.mem_flatMap.mp hp
    obtain ⟨s, hs, rfl⟩ := List.mem_map.mp hp
    exact ⟨b, hbm, hs⟩
  · rintro ⟨b, hbm, hx⟩
    exact ⟨(x, 1), List.mem_flatMap.mpr ⟨b, hbm, List.mem_map.mpr ⟨x, hx, rfl⟩⟩, rfl⟩
theorem in_cnt {e : Int × Int} (h : e ∈ es) : e.2 = hits (fun b x => decide (x ∈ slotR gs tl b 0 (fN b))) bs e.1 := by
  rw [lg.cnt e h]
  exact hits_is _ bs fun b hbm => in_nd okG okT hb hN hbm
include hm
theorem in_slots {s : Int} (h : s ∈ bs) : infSlots (offR gs tl 0 (min m (es.length + 1))) hi (logB es) s = slotR gs tl s 0 (fN s) := by
  have h1 : fN s ≤ m := (hN s h).mono hm (by have := (hb s h).1; omega)
  have h2 : fN s ≤ es.length := by
    have sub : ∀ x ∈ slotR gs tl s 0 (fN s), x ∈ es.map (·.1) := fun x hx => by
      obtain ⟨e, he, e1⟩ := (in_mem okG okT hb hN lg x).mpr ⟨s, h, hx⟩
      exact List.mem_map.mpr ⟨e, he, e1⟩
    have := sum_least_len (in_nd okG okT hb hN h) sub
    rw [List.length_map] at this
    have e : (slotR gs tl s 0 (fN s)).length = fN s := by unfold slotR offR; simp
    omega
  have e : ((offR gs tl 0 (min m (es.length + 1))).filter fun o => decide (s + o < hi)).map (fun o => s + o) = slotR gs tl s 0 (fN s) := by
    unfold slotR offR
    congr 1
    rw [filt_range (k := fN s) _ fun i hi' => ?_, show min (fN s) (min m (es.length + 1)) = fN s by omega]
    refine decide_eq_decide.mpr ⟨fun z => ?_, fun z => ?_⟩
    · refine Classical.byContradiction fun q => ?_
      have := (hN s h).high (0 + i) (by omega) (hm.low (0 + i) (by omega)).1
      omega
    · have := ((hN s h).low (0 + i) (by omega)).2
      omega
  unfold infSlots
  rw [e]
  refine upTo_all fun x hx => decide_eq_true ((in_mem okG okT hb hN lg x).mpr ⟨s, h, hx⟩)
end
end RS
namespace RS
open PySem L2
theorem logB_snoc (done : List (Int × Int)) (e : Int × Int) (b : Int) : logB (done ++ [e]) b = (logB done b || decide (b = e.1)) := by
  unfold logB
  rw [Bool.eq_iff_iff, Bool.or_eq_true, decide_eq_true_iff, decide_eq_true_iff, decide_eq_true_iff]
  constructor
  · rintro ⟨p, hp, rfl⟩
    rcases List.mem_append.mp hp with hp | hp
    · exact .inl ⟨p, hp, rfl⟩
    · exact .inr (by rw [List.mem_singleton.mp hp])
  · rintro (⟨p, hp, rfl⟩ | rfl)
    · exact ⟨p, List.mem_append_left _ hp, rfl⟩
    · exact ⟨e, List.mem_append_right _ (List.mem_singleton.mpr rfl), rfl⟩
theorem dueL_snoc (bs : List Int) (done : List (Int × Int)) (e : Int × Int) : dueL bs (done ++ [e]) = if 0 < bs.count e.1 then dueL bs done ++ [(e.1, ((bs.count e.1 : Nat) : Int))] else dueL bs done := by
  unfold dueL
  rw [List.filter_append, List.map_append, List.filter_cons]
  by_cases h : 0 < bs.count e.1
  · rw [if_pos (decide_eq_true h), if_pos h]
    rfl
  · rw [if_neg (fun z => h (of_decide_eq_true z)), if_neg h]
    show _ ++ [] = _
    rw [List.append_nil]
section
variable {gs : List Int} {tl : Tl} {lo hi : Int} {bs : List Int} {fN : Int → Nat} {es : List (Int × Int)} {m : Nat}
  (okG : GapsOk gs) (okT : TlOk gs.length tl) (hb : ∀ b ∈ bs, lo ≤ b ∧ b < hi) (hN : ∀ b ∈ bs, CntB gs tl (hi - b) (fN b))
  (lg : LogOf (bs.flatMap fun b => (slotR gs tl b 0 (fN b)).map fun s => (s, (1 : Int))) es) (hm : CntB gs tl (hi - lo) m)
include okG okT hb hN lg hm
theorem inf_go : ∀ (r done : List (Int × Int)) (st : InfSt), es = done ++ r → (∀ x, st.cf x = hits (fun b x => decide (x ∈ slotR gs tl b 0 (fN b))) (bs.filter (logB done)) x) → st.clash = hi → st.starts = dueL bs done →
    infRes (offR gs tl 0 (min m (es.length + 1))) hi (logB es) (r ++ [(hi, 0)]) st = .inr (dueL bs es)
  | [], done, st, he, hc, hcl, hs => by
    have he : es = done := by rw [he, List.append_nil]
    have c0 : st.cf hi = 0 := by
      rw [hc]
      unfold hits
      rw [List.filter_filter]
      have : bs.filter (fun b => decide (hi ∈ slotR gs tl b 0 (fN b)) && logB done b) = [] := List.filter_eq_nil_iff.mpr fun b hbm z => by
        rw [Bool.and_eq_true, decide_eq_true_iff] at z
        have := in_bd okG okT hb hN hbm z.1
        omega
      rw [this]
      rfl
    show (if st.clash < hi then _ else if (0 : Int) < st.cf hi then _ else infRes _ _ _ [] (infStep _ _ _ st (hi, 0))) = _
    have e1 : infStep (offR gs tl 0 (min m (es.length + 1))) hi (logB es) st (hi, 0) = st := if_neg (by show ¬ st.cf hi < 0; omega)
    rw [if_neg (by omega), if_neg (by omega), e1]
    show Sum.inr st.starts = _
    rw [hs, he]
  | e :: r, done, st, he, hc, hcl, hs => by
    have hem : e ∈ es := by rw [he]; exact List.mem_append_right _ (List.mem_cons_self ..)
    have asc := lg.asc
    rw [he] at asc
    obtain ⟨_, asc2, asc3⟩ := List.pairwise_append.mp asc
    have below : ∀ p ∈ done, p.1 < e.1 := fun p hp => asc3 p hp e (List.mem_cons_self ..)
    have above : ∀ p ∈ r, e.1 < p.1 := fun p hp => (List.pairwise_cons.mp asc2).1 p hp
    have nd : ∀ b, logB done b = true → b < e.1 := fun b z => by
      obtain ⟨p, hp, rfl⟩ := of_decide_eq_true z
      exact below p hp
    have ehi : e.1 < hi := by
      obtain ⟨b, hbm, hx⟩ := (in_mem okG okT hb hN lg e.1).mp ⟨e, hem, rfl⟩
      exact (in_bd okG okT hb hN hbm hx).2
    have no : ∀ b, logB done b = true → decide (b = e.1) = true → False := fun b z1 z2 => by
      have := nd b z1
      have := of_decide_eq_true z2
      omega
    -- the count of the entry
    have full : hits (fun b x => decide (x ∈ slotR gs tl b 0 (fN b))) bs e.1 = hits (fun b x => decide (x ∈ slotR gs tl b 0 (fN b))) (bs.filter fun b => logB done b || decide (b = e.1)) e.1 := by
      unfold hits
      rw [List.filter_filter]
      congr 2
      refine List.filter_congr fun b hbm => ?_
      show decide (e.1 ∈ slotR gs tl b 0 (fN b)) = (decide (e.1 ∈ slotR gs tl b 0 (fN b)) && (logB done b || decide (b = e.1)))
      cases hx : decide (e.1 ∈ slotR gs tl b 0 (fN b)) with
      | false => rfl
      | true =>
        have hx := of_decide_eq_true hx
        have hle := (in_bd okG okT hb hN hbm hx).1
        by_cases eq : b = e.1
        · rw [decide_eq_true eq, Bool.or_true]
          rfl
        · obtain ⟨p, hp, e2⟩ := (in_mem okG okT hb hN lg b).mpr ⟨b, hbm, in_self okG okT hb hN hbm⟩
          have hpd : p ∈ done := by
            rw [he] at hp
            rcases List.mem_append.mp hp with hp | hp
            · exact hp
            · rcases List.mem_cons.mp hp with rfl | hp
              · exact absurd e2.symm eq
              · have := above p hp
                omega
          have : logB done b = true := decide_eq_true ⟨p, hpd, e2⟩
          rw [this]
          rfl
    have split2 : ∀ x, hits (fun b x => decide (x ∈ slotR gs tl b 0 (fN b))) (bs.filter fun b => logB done b || decide (b = e.1)) x = st.cf x + (bs.count e.1 : Nat) * (if decide (x ∈ slotR gs tl e.1 0 (fN e.1)) then 1 else 0) := fun x => by
      rw [hits_two _ _ _ x no, hits_one, hc]
    have ce : e.2 = st.cf e.1 + (bs.count e.1 : Nat) := by
      rw [in_cnt okG okT hb hN lg hem, full, split2]
      by_cases h : e.1 ∈ bs
      · rw [if_pos (decide_eq_true (in_self okG okT hb hN h)), Int.mul_one]
      · rw [List.count_eq_zero.mpr h]
        simp
    have he2 : es = (done ++ [e]) ++ r := by rw [he, List.append_assoc]; rfl
    have hcf : ∀ x, hits (fun b x => decide (x ∈ slotR gs tl b 0 (fN b))) (bs.filter (logB (done ++ [e]))) x = st.cf x + (bs.count e.1 : Nat) * (if decide (x ∈ slotR gs tl e.1 0 (fN e.1)) then 1 else 0) := fun x => by
      rw [← split2]
      congr 1
      exact List.filter_congr fun b _ => logB_snoc done e b
    show (if st.clash < e.1 then _ else if e.2 < st.cf e.1 then _ else infRes _ _ _ (r ++ [(hi, 0)]) (infStep _ _ _ st e)) = _
    rw [if_neg (by omega), if_neg (by omega)]
    by_cases h0 : 0 < bs.count e.1
    · have hbm : e.1 ∈ bs := List.count_pos_iff.mp h0
      have isl := in_slots okG okT hb hN lg hm hbm
      have est : infStep (offR gs tl 0 (min m (es.length + 1))) hi (logB es) st e = _ := if_pos (by omega)
      rw [est]
      refine inf_go r (done ++ [e]) _ he2 (fun x => ?_) ?_ ?_
      · show st.cf x + (e.2 - st.cf e.1) * ((infSlots _ hi (logB es) e.1).count x : Nat) = _
        rw [hcf, isl, nodup_count (in_nd okG okT hb hN hbm), show e.2 - st.cf e.1 = (bs.count e.1 : Nat) by omega]
        by_cases hx : x ∈ slotR gs tl e.1 0 (fN e.1)
        · rw [if_pos hx, if_pos (decide_eq_true hx)]
          rfl
        · rw [if_neg hx, if_neg (fun z => hx (of_decide_eq_true z))]
          rfl
      · show (if logB es ((infSlots _ hi (logB es) e.1).getLastD 0) then st.clash else _) = hi
        rw [isl]
        have ne : slotR gs tl e.1 0 (fN e.1) ≠ [] := List.ne_nil_of_mem (in_self okG okT hb hN hbm)
        have hl : (slotR gs tl e.1 0 (fN e.1)).getLastD 0 ∈ slotR gs tl e.1 0 (fN e.1) := by
          rw [List.getLastD_eq_getLast?, List.getLast?_eq_some_getLast ne]
          exact List.getLast_mem ne
        have : logB es ((slotR gs tl e.1 0 (fN e.1)).getLastD 0) = true := decide_eq_true ((in_mem okG okT hb hN lg _).mpr ⟨e.1, hbm, hl⟩)
        rw [if_pos this]
        exact hcl
      · show st.starts ++ [(e.1, e.2 - st.cf e.1)] = _
        rw [dueL_snoc, if_pos h0, hs, show e.2 - st.cf e.1 = (bs.count e.1 : Nat) by omega]
    · have c0 : bs.count e.1 = 0 := by omega
      have est : infStep (offR gs tl 0 (min m (es.length + 1))) hi (logB es) st e = st := if_neg (by omega)
      rw [est]
      refine inf_go r (done ++ [e]) st he2 (fun x => ?_) hcl ?_
      · rw [hcf, c0]
        simp
      · rw [dueL_snoc, if_neg h0, hs]
/-- the log of starts in the window gives back its starts -/
theorem inf_back : infRes (offR gs tl 0 (min m (es.length + 1))) hi (logB es) (es ++ [(hi, 0)]) (inf0 hi) = .inr (dueL bs es) := by
  refine inf_go okG okT hb hN lg hm es [] (inf0 hi) rfl (fun x => ?_) rfl rfl
  have : bs.filter (logB []) = [] := List.filter_eq_nil_iff.mpr fun b _ z => by
    obtain ⟨p, hp, _⟩ := of_decide_eq_true z
    cases hp
  rw [this]
  rfl
end
end RS
namespace RS
open PySem L2
theorem pw_ext {α : Type} {r : α → α → Prop} (irr : ∀ x, ¬ r x x) (asym : ∀ x y, r x y → ¬ r y x) : ∀ {l m : List α}, l.Pairwise r → m.Pairwise r → (∀ x, x ∈ l ↔ x ∈ m) → l = m
  | [], [], _, _, _ => rfl
  | [], y :: m, _, _, h => nomatch (h y).mpr (List.mem_cons_self ..)
  | x :: l, [], _, _, h => nomatch (h x).mp (List.mem_cons_self ..)
  | x :: l, y :: m, hl, hm, h => by
    obtain ⟨hl1, hl2⟩ := List.pairwise_cons.mp hl
    obtain ⟨hm1, hm2⟩ := List.pairwise_cons.mp hm
    have e : x = y := by
      rcases List.mem_cons.mp ((h x).mp (List.mem_cons_self ..)) with z | z
      · exact z
      · rcases List.mem_cons.mp ((h y).mpr (List.mem_cons_self ..)) with z2 | z2
        · exact z2.symm
        · exact absurd (hm1 x z) (asym _ _ (hl1 y z2))
    subst e
    congr 1
    refine pw_ext irr asym hl2 hm2 fun z => ⟨fun hz => ?_, fun hz => ?_⟩
    · rcases List.mem_cons.mp ((h z).mp (List.mem_cons_of_mem _ hz)) with e | e
      · rw [e] at hz
        exact absurd (hl1 x hz) (irr x)
      · exact e
    · rcases List.mem_cons.mp ((h z).mpr (List.mem_cons_of_mem _ hz)) with e | e
      · rw [e] at hz
        exact absurd (hm1 x hz) (irr x)
      · exact e
end RS
namespace RS
open PySem L2
/-! ### k55: how many attempts a start makes in its window -/
theorem cnt_ex {gs : List Int} {tl : Tl} (okG : GapsOk gs) (okT : TlOk gs.length tl) {d : Int} : ∀ {N : Nat}, AttOk gs tl N → d ≤ off gs tl N → ∃ n, n ≤ N ∧ CntB gs tl d n
  | 0, h, hd => ⟨0, Nat.le_refl _, cnt_of okG okT h hd (fun z => absurd z (Nat.lt_irrefl 0))⟩
  | N + 1, h, hd => by
    by_cases z : d ≤ off gs tl N
    · obtain ⟨n, hn, c⟩ := cnt_ex okG okT (h.le (Nat.le_succ N)) z
      exact ⟨n, by omega, c⟩
    · refine ⟨N + 1, Nat.le_refl _, cnt_of okG okT h hd (fun _ => ?_)⟩
      show off gs tl N < d
      omega
theorem off_pos {gs : List Int} {tl : Tl} (okG : GapsOk gs) (okT : TlOk gs.length tl) {i : Nat} (h : AttOk gs tl i) : 0 ≤ off gs tl i := by
  have := off_le okG okT (Nat.zero_le i) h
  rwa [off_low (Nat.zero_le _), pre_zero] at this
theorem pow_two_leG {b : Int} (h : 2 ≤ b) : ∀ k : Nat, (2 : Int) ^ k ≤ b ^ k
  | 0 => by rw [Int.pow_zero, Int.pow_zero]; exact Int.le_refl _
  | k + 1 => by
    rw [Int.pow_succ, Int.pow_succ]
    have p : (0 : Int) < 2 ^ k := Int.pow_pos (by decide)
    exact Int.mul_le_mul (pow_two_leG h k) h (by decide) (by have := pow_two_leG h k; omega)
theorem off_grows {gs : List Int} {b : Int} (okG : GapsOk gs) (okT : TlOk gs.length (.times b)) (k : Nat) (hk : gs.length + k + 1 ≤ 1000) : (2 : Int) ^ (k + 1) ≤ off gs (.times b) (gs.length + k + 1) := by
  have h1 := off_pos okG okT (i := gs.length + k) (show gs.length + k ≤ 1000 by omega)
  have h2 : 1 ≤ lastG gs := (gap_bd okG (k := gs.length - 1) (by have := okT.1; omega)).1
  have h3 := pow_two_leG okT.2.1 (k + 1)
  rw [off_succ okT (fun e => nomatch e), gap_times (by omega), show gs.length + k - gs.length + 1 = k + 1 by omega]
  have p : (0 : Int) < b ^ (k + 1) := Int.pow_pos (by have := okT.2.1; omega)
  have h4 : 1 * b ^ (k + 1) ≤ lastG gs * b ^ (k + 1) := Int.mul_le_mul_of_nonneg_right h2 (by omega)
  omega
theorem rep_far {gs : List Int} {m : Nat} (okG : GapsOk gs) (okT : TlOk gs.length (.rep m)) (t : Nat) : (t : Int) * per gs m ≤ off gs (.rep m) (gs.length + m * t) := by
  have h1 : 1 ≤ m := okT.1
  have h2 : m ≤ gs.length := okT.2
  have e := off_later (gs := gs) h1 h2 0 t
  rw [Nat.zero_add] at e
  rw [e]
  have := off_pos okG okT (i := gs.length) (AttOk.low okG (Nat.le_refl _))
  omega
/-- a distance that few attempts reach -/
def FewD (gs : List Int) (tl : Tl) (d : Int) : Prop := match tl with
  | .fin => True
  | .times _ => d ≤ 10000000000000000000000000000
  | .rep m => d ≤ 3 * per gs m
theorem FewD.le {gs : List Int} {tl : Tl} {d e : Int} (h : FewD gs tl d) (hl : e ≤ d) : FewD gs tl e := by
  cases tl with
  | fin => trivial
  | times b => exact Int.le_trans hl h
  | rep m => exact Int.le_trans hl h
theorem few_ex {gs : List Int} {tl : Tl} (okG : GapsOk gs) (okT : TlOk gs.length tl) {d : Int} (h : FewD gs tl d) : HD gs tl d ∧ ∃ n, n ≤ 120 ∧ CntB gs tl d n := by
  have h20 := okG.1
  cases tl with
  | fin =>
    refine ⟨trivial, ?_⟩
    by_cases z : d ≤ pre gs gs.length
    · obtain ⟨n, hn, c⟩ := cnt_ex okG okT (N := gs.length) (d := d) (Nat.le_refl _) (by rw [off_low (Nat.le_refl _)]; exact z)
      exact ⟨n, by omega, c⟩
    · exact ⟨gs.length + 1, by omega, cnt_fin okG (by omega)⟩
  | times b =>
    have h1 := off_grows okG okT 99 (by omega)
    have h2 : (10000000000000000000000000000 : Int) ≤ 2 ^ (99 + 1) := by decide
    have h : d ≤ 10000000000000000000000000000 := h
    refine ⟨?_, ?_⟩
    · have h3 := off_le okG okT (i := gs.length + 99 + 1) (j := 1000) (by omega) (show 1000 ≤ 1000 by omega)
      show d ≤ _
      omega
    · obtain ⟨n, hn, c⟩ := cnt_ex okG okT (N := gs.length + 99 + 1) (d := d) (show gs.length + 99 + 1 ≤ 1000 by omega) (by omega)
      exact ⟨n, by omega, c⟩
  | rep m =>
    have h1 : 1 ≤ m := okT.1
    have h2 : m ≤ gs.length := okT.2
    have h3 := per_bd okG h1 h2
    have h : d ≤ 3 * per gs m := h
    refine ⟨?_, ?_⟩
    · show d < 2 ^ 200
      omega
    · have h4 := rep_far okG okT 3
      obtain ⟨n, hn, c⟩ := cnt_ex okG okT (N := gs.length + m * 3) (d := d) trivial (by omega)
      exact ⟨n, by omega, c⟩
theorem rep_ex {gs : List Int} {m : Nat} (okG : GapsOk gs) (okT : TlOk gs.length (.rep m)) (d : Int) : ∃ n, CntB gs (.rep m) d n := by
  have h3 := per_bd okG okT.1 okT.2
  have h1 : 1 ≤ m := okT.1
  have h4 := rep_far okG okT d.toNat
  have h5 : (d.toNat : Int) * 1 ≤ (d.toNat : Int) * per gs m := Int.mul_le_mul_of_nonneg_left (by omega) (by omega)
  obtain ⟨n, _, c⟩ := cnt_ex okG okT (N := gs.length + m * d.toNat) (d := d) trivial (by omega)
  exact ⟨n, c⟩
theorem cnt_none {gs : List Int} {tl : Tl} (okG : GapsOk gs) (okT : TlOk gs.length tl) {d : Int} (h : d ≤ 0) : CntB gs tl d 0 :=
  ⟨fun i hi => absurd hi (Nat.not_lt_zero _), fun i _ hi => by have := off_pos okG okT hi; omega⟩
/-- a start in a window that few attempts fill -/
theorem win_ex {gs : List Int} {tl : Tl} (okG : GapsOk gs) (okT : TlOk gs.length tl) {lo hi : Int} (h : FewD gs tl (hi - lo)) {b : Int} (hb : lo ≤ b) : ∃ n, n ≤ 120 ∧ WinN gs tl lo hi b 0 n := by
  obtain ⟨h1, n, hn, c⟩ := few_ex okG okT (d := hi - b) (h.le (by omega))
  refine ⟨n, hn, ?_, h1, cnt_none okG okT (by omega), by rw [Nat.zero_add]; exact c, by omega, by omega⟩
  cases tl with
  | fin => trivial
  | times x =>
    have := off_pos okG okT (tl := .times x) (i := 1000) (show 1000 ≤ 1000 by omega)
    show lo - b ≤ _
    omega
  | rep m =>
    show lo - b < 2 ^ 200
    omega
open Classical in
/-- the numbers of attempts of all starts -/
theorem win_all {gs : List Int} {tl : Tl} (okG : GapsOk gs) (okT : TlOk gs.length tl) {lo hi : Int} (h : FewD gs tl (hi - lo)) : ∃ f : Int → Nat, ∀ b, lo ≤ b → f b ≤ 120 ∧ WinN gs tl lo hi b 0 (f b) := by
  refine ⟨fun b => if hb : lo ≤ b then (win_ex okG okT h hb).choose else 0, fun b hb => ?_⟩
  have := (win_ex okG okT h hb).choose_spec
  simp only [dif_pos hb]
  exact this
/-! ### the starts in their order -/
theorem due_is {gs : List Int} {tl : Tl} {lo hi : Int} {bs ns : List Int} {fN : Int → Nat} {es : List (Int × Int)}
    (okG : GapsOk gs) (okT : TlOk gs.length tl) (hb : ∀ b ∈ bs, lo ≤ b ∧ b < hi) (hN : ∀ b ∈ bs, CntB gs tl (hi - b) (fN b))
    (lg : LogOf (bs.flatMap fun b => (slotR gs tl b 0 (fN b)).map fun s => (s, (1 : Int))) es) (asc : ns.Pairwise (· < ·)) (hm : ∀ x, x ∈ ns ↔ x ∈ bs) :
    dueL bs es = ns.map fun s => (s, ((bs.count s : Nat) : Int)) := by
  refine pw_ext (r := fun p q : Int × Int => p.1 < q.1) (fun x => by omega) (fun x y => by omega) ?_ (List.pairwise_map.mpr asc) fun x => ?_
  · unfold dueL
    exact List.pairwise_map.mpr ((lg.asc).sublist List.filter_sublist)
  · unfold dueL
    constructor
    · intro h
      obtain ⟨e, he, rfl⟩ := List.mem_map.mp h
      have h2 := of_decide_eq_true (List.mem_filter.mp he).2
      exact List.mem_map.mpr ⟨e.1, (hm _).mpr (List.count_pos_iff.mp h2), rfl⟩
    · intro h
      obtain ⟨s, hs, rfl⟩ := List.mem_map.mp h
      have hs := (hm _).mp hs
      obtain ⟨e, he, rfl⟩ := (in_mem okG okT hb hN lg s).mpr ⟨s, hs, in_self okG okT hb hN hs⟩
      exact List.mem_map.mpr ⟨e, List.mem_filter.mpr ⟨he, decide_eq_true (List.count_pos_iff.mpr hs)⟩, rfl⟩
end RS
namespace RS
open PySem L2
/-! ### k54: the log walked slot by slot -/
structure WkSt where
  ex : Int → Int
  ss : List (Int × Int)
def wkStep (os : List Int) (rc : Int → Int) (st : WkSt) (x : Int) : WkSt :=
  if st.ex x < rc x then ⟨fun y => st.ex y + (rc x - st.ex x) * (os.count (y - x) : Nat), st.ss ++ [(x, rc x - st.ex x)]⟩ else st
def wkRes (os : List Int) (rc : Int → Int) : Nat → Int → WkSt → Sum (Int × Int × Int) (List (Int × Int))
  | 0, _, st => .inr st.ss
  | n + 1, x, st => if rc x < st.ex x then .inl (x, st.ex x, rc x) else wkRes os rc n (x + 1) (wkStep os rc st x)
theorem wk_skip {os : List Int} {rc : Int → Int} {st : WkSt} : ∀ (j n : Nat) (x : Int), (∀ y, x ≤ y → y < x + (j : Int) → rc y = 0 ∧ st.ex y = 0) → wkRes os rc (j + n) x st = wkRes os rc n (x + (j : Int)) st
  | 0, n, x, _ => by rw [Nat.zero_add]; show _ = wkRes os rc n (x + 0) st; rw [Int.add_zero]
  | j + 1, n, x, h => by
    obtain ⟨h1, h2⟩ := h x (Int.le_refl _) (by omega)
    have e : j + 1 + n = (j + n) + 1 := by omega
    rw [e]
    show (if rc x < st.ex x then _ else wkRes os rc (j + n) (x + 1) (wkStep os rc st x)) = _
    have e2 : wkStep os rc st x = st := if_neg (by omega)
    rw [if_neg (by omega), e2, wk_skip j n (x + 1) (fun y h3 h4 => h y (by omega) (by omega)), show x + 1 + (j : Int) = x + ((j + 1 : Nat) : Int) by omega]
theorem wk_to {os : List Int} {rc : Int → Int} {st : WkSt} {x y hi : Int} (h1 : x ≤ y) (h2 : y ≤ hi) (h : ∀ z, x ≤ z → z < y → rc z = 0 ∧ st.ex z = 0) : wkRes os rc (hi - x).toNat x st = wkRes os rc (hi - y).toNat y st := by
  have e := wk_skip (os := os) (rc := rc) (st := st) (y - x).toNat (hi - y).toNat x (fun z h3 h4 => h z h3 (by omega))
  rw [show (y - x).toNat + (hi - y).toNat = (hi - x).toNat by omega, show x + ((y - x).toNat : Int) = y by omega] at e
  exact e
theorem wk_at {os : List Int} {rc : Int → Int} {st : WkSt} {x hi : Int} (h : x < hi) : wkRes os rc (hi - x).toNat x st = if rc x < st.ex x then .inl (x, st.ex x, rc x) else wkRes os rc (hi - (x + 1)).toNat (x + 1) (wkStep os rc st x) := by
  rw [show (hi - x).toNat = (hi - (x + 1)).toNat + 1 by omega]
  rfl
theorem upTo_or (lg : Int → Bool) : ∀ l : List Int, ((∀ x ∈ l, lg x = true) ∧ upTo lg l = l) ∨ ∃ p c q, l = p ++ c :: q ∧ (∀ x ∈ p, lg x = true) ∧ lg c = false ∧ upTo lg l = p ++ [c]
  | [] => .inl ⟨(fun x h => nomatch h), rfl⟩
  | x :: l => by
    cases hx : lg x with
    | false => exact .inr ⟨[], x, l, rfl, (fun y h => nomatch h), hx, by show (if lg x then _ else _) = _; rw [hx]; rfl⟩
    | true =>
      have e : upTo lg (x :: l) = x :: upTo lg l := by
        show (if lg x then _ else _) = _
        rw [hx]
        rfl
      rw [e]
      rcases upTo_or lg l with ⟨h1, h2⟩ | ⟨p, c, q, h1, h2, h3, h4⟩
      · refine .inl ⟨fun y hy => ?_, by rw [h2]⟩
        rcases List.mem_cons.mp hy with rfl | hy
        · exact hx
        · exact h1 y hy
      · refine .inr ⟨x :: p, c, q, by rw [h1]; rfl, fun y hy => ?_, h3, by rw [h4]; rfl⟩
        rcases List.mem_cons.mp hy with rfl | hy
        · exact hx
        · exact h2 y hy
/-- a distance at which there is an attempt -/
def AtD (gs : List Int) (tl : Tl) (d : Int) : Prop := ∃ i, AttOk gs tl i ∧ off gs tl i = d
section
variable {gs : List Int} {tl : Tl} {lo hi : Int} {es : List (Int × Int)} {m : Nat}
  (okG : GapsOk gs) (okT : TlOk gs.length tl) (hm : CntB gs tl (hi - lo) m)
include okG okT hm
/-- the slots of a start up to the first that is not logged -/
theorem walk_slots {s : Int} (hs : lo ≤ s) :
    (infSlots (offR gs tl 0 (min m (es.length + 1))) hi (logB es) s).Nodup ∧ (∀ x ∈ infSlots (offR gs tl 0 (min m (es.length + 1))) hi (logB es) s, s ≤ x ∧ x < hi ∧ AtD gs tl (x - s)) ∧
    (((∀ x, x < hi → AtD gs tl (x - s) → x ∈ infSlots (offR gs tl 0 (min m (es.length + 1))) hi (logB es) s) ∧ ∀ x ∈ infSlots (offR gs tl 0 (min m (es.length + 1))) hi (logB es) s, logB es x = true) ∨
     ∃ c, c ∈ infSlots (offR gs tl 0 (min m (es.length + 1))) hi (logB es) s ∧ (infSlots (offR gs tl 0 (min m (es.length + 1))) hi (logB es) s).getLastD 0 = c ∧ logB es c = false ∧
       (∀ x, x ≤ c → AtD gs tl (x - s) → x ∈ infSlots (offR gs tl 0 (min m (es.length + 1))) hi (logB es) s) ∧ ∀ x ∈ infSlots (offR gs tl 0 (min m (es.length + 1))) hi (logB es) s, x ≠ c → logB es x = true) := by
  -- all slots that are looked at
  have hmem : ∀ x, x ∈ ((offR gs tl 0 (min m (es.length + 1))).filter fun o => decide (s + o < hi)).map (fun o => s + o) ↔ ∃ i, i < min m (es.length + 1) ∧ x = s + off gs tl i ∧ x < hi := fun x => by
    constructor
    · intro h
      obtain ⟨o, ho, rfl⟩ := List.mem_map.mp h
      obtain ⟨h1, h2⟩ := List.mem_filter.mp ho
      unfold offR at h1
      obtain ⟨i, hi', rfl⟩ := List.mem_map.mp h1
      rw [Nat.zero_add] at h2 ⊢
      exact ⟨i, List.mem_range.mp hi', rfl, of_decide_eq_true h2⟩
    · rintro ⟨i, hi', rfl, h⟩
      refine List.mem_map.mpr ⟨off gs tl i, List.mem_filter.mpr ⟨?_, decide_eq_true h⟩, rfl⟩
      unfold offR
      exact List.mem_map.mpr ⟨i, List.mem_range.mpr hi', by rw [Nat.zero_add]⟩
  have hasc : (((offR gs tl 0 (min m (es.length + 1))).filter fun o => decide (s + o < hi)).map (fun o => s + o)).Pairwise (· < ·) := by
    refine List.pairwise_map.mpr (List.Pairwise.imp (R := (· < ·)) (fun {a b} h => by omega) (List.Pairwise.sublist List.filter_sublist ?_))
    unfold offR
    refine List.pairwise_map.mpr ((List.pairwise_lt_range (n := min m (es.length + 1))).imp_of_mem fun {i j} _ hj hij => ?_)
    have hj := List.mem_range.mp hj
    rw [Nat.zero_add, Nat.zero_add]
    exact off_lt okG okT hij ((hm.low j (by omega)).1).fin
  have hat : ∀ x, x ∈ ((offR gs tl 0 (min m (es.length + 1))).filter fun o => decide (s + o < hi)).map (fun o => s + o) → s ≤ x ∧ x < hi ∧ AtD gs tl (x - s) := fun x hx => by
    obtain ⟨i, hi', rfl, h⟩ := (hmem x).mp hx
    have ok := (hm.low i (by omega)).1
    have := off_pos okG okT ok
    exact ⟨by omega, h, i, ok, by omega⟩
  have hsm : ∀ i, AttOk gs tl i → s + off gs tl i < hi → i < m := fun i ok h => Nat.lt_of_not_le fun z => by
    have := hm.high i z ok
    omega
  unfold infSlots
  generalize hl : ((offR gs tl 0 (min m (es.length + 1))).filter fun o => decide (s + o < hi)).map (fun o => s + o) = l at hmem hasc hat
  have hnd : l.Nodup := hasc.imp fun {x y} z e => by omega
  rcases upTo_or (logB es) l with ⟨h1, h2⟩ | ⟨p, c, q, h1, h2, h3, h4⟩
  · rw [h2]
    refine ⟨hnd, hat, .inl ⟨fun x hx ⟨i, ok, e⟩ => (hmem x).mpr ⟨i, ?_, by omega, hx⟩, h1⟩⟩
    have im := hsm i ok (by omega)
    refine Nat.lt_of_not_le fun z => ?_
    have zi : es.length + 1 ≤ i := by omega
    -- more logged slots than the log has
    have sub : ∀ y ∈ (List.range (es.length + 1)).map (fun j => s + off gs tl j), y ∈ es.map (·.1) := fun y hy => by
      obtain ⟨j, hj, rfl⟩ := List.mem_map.mp hy
      have hj := List.mem_range.mp hj
      have h5 := off_le okG okT (show j ≤ i by omega) ok
      have := h1 _ ((hmem (s + off gs tl j)).mpr ⟨j, by omega, rfl, by omega⟩)
      obtain ⟨e, he, e1⟩ := of_decide_eq_true this
      exact List.mem_map.mpr ⟨e, he, e1⟩
    have nd : ((List.range (es.length + 1)).map (fun j => s + off gs tl j)).Nodup := List.pairwise_map.mpr ((List.pairwise_lt_range (n := es.length + 1)).imp_of_mem fun {a b} _ hb hab e => by
      have hb := List.mem_range.mp hb
      have := off_lt okG okT hab (ok.le (show b ≤ i by omega)).fin
      omega)
    have := sum_least_len nd sub
    rw [List.length_map, List.length_map, List.length_range] at this
    omega
  · rw [h4]
    subst h1
    have hpq := List.pairwise_append.mp hasc
    have hcq := List.pairwise_cons.mp hpq.2.1
    have sub : ∀ x, x ∈ p ++ [c] → x ∈ p ++ c :: q := fun x hx => by
      rcases List.mem_append.mp hx with hx | hx
      · exact List.mem_append_left _ hx
      · rw [List.mem_singleton.mp hx]
        exact List.mem_append_right _ (List.mem_cons_self ..)
    refine ⟨?_, fun x hx => hat x (sub x hx), .inr ⟨c, List.mem_append_right _ (List.mem_singleton.mpr rfl), by rw [List.getLastD_eq_getLast?, List.getLast?_append]; rfl, h3, fun x hx ⟨i, ok, e⟩ => ?_, fun x hx n => ?_⟩⟩
    · have : p ++ c :: q = (p ++ [c]) ++ q := by rw [List.append_assoc]; rfl
      rw [this] at hnd
      exact (List.nodup_append.mp hnd).1
    · have hc := (hmem c).mp (sub c (List.mem_append_right _ (List.mem_singleton.mpr rfl)))
      obtain ⟨j, hj, ej, hch⟩ := hc
      have ij : i ≤ j := Nat.le_of_not_lt fun z => by
        have := off_lt okG okT z ok.fin
        omega
      have hx2 := (hmem x).mpr ⟨i, by omega, by omega, by omega⟩
      rcases List.mem_append.mp hx2 with h | h
      · exact List.mem_append_left _ h
      · rcases List.mem_cons.mp h with rfl | h
        · exact List.mem_append_right _ (List.mem_singleton.mpr rfl)
        · have := hcq.1 x h
          omega
    · rcases List.mem_append.mp hx with hx | hx
      · exact h2 x hx
      · exact absurd (List.mem_singleton.mp hx) n
variable (ok : LogOk es lo hi) {rc : Int → Int} (hrc : ∀ e ∈ es, rc e.1 = e.2) (hr0 : ∀ x, logB es x = false → rc x = 0)
  {os : List Int} (hos : ∀ d, 0 < d → d < hi - lo → (os.count d = 1 ∧ AtD gs tl d) ∨ (os.count d = 0 ∧ ¬ AtD gs tl d))
include ok hrc hr0 hos
theorem walk_go : ∀ (r done : List (Int × Int)) (st : InfSt) (ws : WkSt) (s : Int), es = done ++ r → lo ≤ s → s ≤ hi → (∀ x, s ≤ x → (logB es x = true ↔ ∃ e ∈ r, e.1 = x)) → (∀ e ∈ r, s ≤ e.1) →
    st.starts = ws.ss → s ≤ st.clash → st.clash ≤ hi → (st.clash < hi → logB es st.clash = false ∧ 0 < ws.ex st.clash) → (∀ x, s ≤ x → x < st.clash → logB es x = false → ws.ex x = 0) →
    (∀ x, s ≤ x → x ≤ st.clash → x < hi → st.cf x = ws.ex x) → (∀ x, hi ≤ x → st.cf x = 0) → (∀ x, 0 ≤ ws.ex x) →
    infRes (offR gs tl 0 (min m (es.length + 1))) hi (logB es) (r ++ [(hi, 0)]) st = wkRes os rc (hi - s).toNat s ws
  | [], done, st, ws, s, he, hlo, hhi, hlg, _, hss, hc1, hc2, hcl, hz, hcf, hcfh, hex => by
    have un : ∀ x, s ≤ x → logB es x = false := fun x hx => by
      cases e : logB es x with
      | false => rfl
      | true =>
        obtain ⟨_, h, _⟩ := (hlg x hx).mp e
        cases h
    show (if st.clash < hi then Sum.inl (st.clash, st.cf st.clash, 0) else if 0 < st.cf hi then _ else infRes _ hi (logB es) [] (infStep _ hi _ st (hi, 0))) = _
    by_cases h : st.clash < hi
    · rw [if_pos h]
      obtain ⟨h1, h2⟩ := hcl h
      rw [wk_to hc1 hc2 (fun z z1 z2 => ⟨hr0 z (un z z1), hz z z1 z2 (un z z1)⟩), wk_at h, hr0 _ h1, if_pos h2, hcf _ hc1 (Int.le_refl _) h]
    · rw [if_neg h, hcfh hi (Int.le_refl _), if_neg (by omega)]
      have e : infStep (offR gs tl 0 (min m (es.length + 1))) hi (logB es) st (hi, 0) = st := if_neg (by show ¬ st.cf hi < 0; rw [hcfh hi (Int.le_refl _)]; omega)
      rw [e, wk_to hhi (Int.le_refl _) (fun z z1 z2 => ⟨hr0 z (un z z1), hz z z1 (by omega) (un z z1)⟩), Int.sub_self]
      show Sum.inr st.starts = Sum.inr ws.ss
      rw [hss]
  | e :: r, done, st, ws, s, he, hlo, hhi, hlg, hge, hss, hc1, hc2, hcl, hz, hcf, hcfh, hex => by
    have hem : e ∈ es := by rw [he]; exact List.mem_append_right _ (List.mem_cons_self ..)
    obtain ⟨b1, b2, b3⟩ := ok.bd e hem
    have hse := hge e (List.mem_cons_self ..)
    have asc := ok.asc
    rw [he] at asc
    have asc2 := List.pairwise_cons.mp (List.pairwise_append.mp asc).2.1
    have un : ∀ x, s ≤ x → x < e.1 → logB es x = false := fun x hx hx2 => by
      cases z : logB es x with
      | false => rfl
      | true =>
        obtain ⟨e2, h, rfl⟩ := (hlg x hx).mp z
        rcases List.mem_cons.mp h with rfl | h
        · omega
        · have := asc2.1 e2 h
          omega
    show (if st.clash < e.1 then Sum.inl (st.clash, st.cf st.clash, 0) else if e.2 < st.cf e.1 then Sum.inl (e.1, st.cf e.1, e.2) else infRes _ hi (logB es) (r ++ [(hi, 0)]) (infStep _ hi _ st e)) = _
    by_cases h : st.clash < e.1
    · rw [if_pos h]
      obtain ⟨h1, h2⟩ := hcl (by omega)
      rw [wk_to hc1 hc2 (fun z z1 z2 => ⟨hr0 z (un z z1 (by omega)), hz z z1 z2 (un z z1 (by omega))⟩), wk_at (by omega), hr0 _ h1, if_pos h2, hcf _ hc1 (Int.le_refl _) (by omega)]
    · rw [if_neg h]
      have ee := hcf e.1 hse (by omega) b2
      rw [wk_to hse (by omega) (fun z z1 z2 => ⟨hr0 z (un z z1 z2), hz z z1 (by omega) (un z z1 z2)⟩), wk_at b2, hrc e hem, ee]
      by_cases h2 : e.2 < ws.ex e.1
      · rw [if_pos h2, if_pos h2]
      · rw [if_neg h2, if_neg h2]
        have he2 : es = (done ++ [e]) ++ r := by rw [he, List.append_assoc]; rfl
        have lge : logB es e.1 = true := decide_eq_true ⟨e, hem, rfl⟩
        have hlg2 : ∀ x, e.1 + 1 ≤ x → (logB es x = true ↔ ∃ e ∈ r, e.1 = x) := fun x hx => by
          rw [hlg x (by omega)]
          constructor
          · rintro ⟨e2, h, rfl⟩
            rcases List.mem_cons.mp h with rfl | h
            · omega
            · exact ⟨e2, h, rfl⟩
          · rintro ⟨e2, h, rfl⟩
            exact ⟨e2, List.mem_cons_of_mem _ h, rfl⟩
        have hge2 : ∀ e2 ∈ r, e.1 + 1 ≤ e2.1 := fun e2 h => by
          have := asc2.1 e2 h
          omega
        have hcne : st.clash ≠ e.1 := fun z => by
          have := (hcl (by omega)).1
          rw [z, lge] at this
          cases this
        by_cases h3 : ws.ex e.1 < e.2
        · -- a start
          have est : infStep (offR gs tl 0 (min m (es.length + 1))) hi (logB es) st e = _ := if_pos (by rw [ee]; exact h3)
          have ews : wkStep os rc ws e.1 = ⟨fun y => ws.ex y + (e.2 - ws.ex e.1) * (os.count (y - e.1) : Nat), ws.ss ++ [(e.1, e.2 - ws.ex e.1)]⟩ := by
            unfold wkStep
            rw [hrc e hem, if_pos h3]
          rw [est, ews, ee]
          obtain ⟨nd, inn, cs⟩ := walk_slots (es := es) okG okT hm b1
          generalize hL : infSlots (offR gs tl 0 (min m (es.length + 1))) hi (logB es) e.1 = L at nd inn cs ⊢
          have kpos : 0 < e.2 - ws.ex e.1 := by omega
          generalize hk : e.2 - ws.ex e.1 = k at kpos ⊢
          have exn : ∀ x, 0 ≤ ws.ex x + k * (os.count (x - e.1) : Nat) := fun x => by
            have h1 := hex x
            have h2 : 0 ≤ k * ((os.count (x - e.1) : Nat) : Int) := Int.mul_nonneg (by omega) (by omega)
            omega
          have cfh : ∀ x, hi ≤ x → st.cf x + k * (L.count x : Nat) = 0 := fun x hx => by
            have : L.count x = 0 := List.count_eq_zero.mpr fun z => by have := (inn x z).2.1; omega
            rw [this, hcfh x hx]
            simp
          -- where both count the same
          have same : ∀ c', (∀ x, e.1 < x → x ≤ c' → x < hi → AtD gs tl (x - e.1) → x ∈ L) → ∀ x, e.1 + 1 ≤ x → x ≤ st.clash → x ≤ c' → x < hi → st.cf x + k * (L.count x : Nat) = ws.ex x + k * (os.count (x - e.1) : Nat) := fun c' hall x x1 x2 x3 x4 => by
            rw [hcf x (by omega) x2 x4, nodup_count nd]
            rcases hos (x - e.1) (by omega) (by omega) with ⟨h4, h5⟩ | ⟨h4, h5⟩
            · rw [h4, if_pos (hall x (by omega) x3 x4 h5)]
            · rw [h4, if_neg (fun z => h5 (inn x z).2.2)]
          rcases cs with ⟨c1, c2⟩ | ⟨c, c1, c2, c3, c4, c5⟩
          · have elg : logB es (L.getLastD 0) = true := by
              have : e.1 ∈ L := c1 e.1 b2 ⟨0, AttOk.low okG (Nat.zero_le _), by rw [off_low (Nat.zero_le _), pre_zero]; omega⟩
              have ne : L ≠ [] := List.ne_nil_of_mem this
              rw [List.getLastD_eq_getLast?, List.getLast?_eq_some_getLast ne]
              exact c2 _ (List.getLast_mem ne)
            refine walk_go r (done ++ [e]) _ _ (e.1 + 1) he2 (by omega) (by omega) hlg2 hge2 (by show st.starts ++ _ = _; rw [hss]) ?_ ?_ ?_ ?_ ?_ cfh exn
            all_goals show _
            all_goals simp only [elg, if_true]
            · omega
            · exact hc2
            · intro z
              obtain ⟨z1, z2⟩ := hcl z
              have h2 : 0 ≤ k * ((os.count (st.clash - e.1) : Nat) : Int) := Int.mul_nonneg (by omega) (by omega)
              exact ⟨z1, by omega⟩
            · intro x x1 x2 x3
              rw [hz x (by omega) x2 x3]
              rcases hos (x - e.1) (by omega) (by omega) with ⟨h4, h5⟩ | ⟨h4, h5⟩
              · have := c2 x (c1 x (by omega) h5)
                rw [x3] at this
                cases this
              · rw [h4]
                simp
            · intro x x1 x2 x3
              exact same hi (fun y _ _ y3 y4 => c1 y y3 y4) x x1 x2 (by omega) x3
          · obtain ⟨i1, i2, i3⟩ := inn c c1
            have hce : c ≠ e.1 := fun z => by rw [z, lge] at c3; cases c3
            refine walk_go r (done ++ [e]) _ _ (e.1 + 1) he2 (by omega) (by omega) hlg2 hge2 (by show st.starts ++ _ = _; rw [hss]) ?_ ?_ ?_ ?_ ?_ cfh exn
            all_goals show _
            all_goals simp only [c2, c3, Bool.false_eq_true, if_false]
            · omega
            · omega
            · intro z
              rcases Int.le_total c st.clash with q | q
              · rw [show min st.clash c = c by omega]
                have h1 := hex c
                rcases hos (c - e.1) (by omega) (by omega) with ⟨h4, h5⟩ | ⟨h4, h5⟩
                · rw [h4]
                  exact ⟨c3, by omega⟩
                · exact absurd i3 h5
              · rw [show min st.clash c = st.clash by omega]
                obtain ⟨z1, z2⟩ := hcl (by omega)
                have h2 : 0 ≤ k * ((os.count (st.clash - e.1) : Nat) : Int) := Int.mul_nonneg (by omega) (by omega)
                exact ⟨z1, by omega⟩
            · intro x x1 x2 x3
              rw [hz x (by omega) (by omega) x3]
              rcases hos (x - e.1) (by omega) (by omega) with ⟨h4, h5⟩ | ⟨h4, h5⟩
              · have := c5 x (c4 x (by omega) h5) (by omega)
                rw [x3] at this
                cases this
              · rw [h4]
                simp
            · intro x x1 x2 x3
              exact same c (fun y _ y2 _ y4 => c4 y y2 y4) x x1 (by omega) (by omega) x3
        · -- nothing new
          have est : infStep (offR gs tl 0 (min m (es.length + 1))) hi (logB es) st e = st := if_neg (by rw [ee]; exact h3)
          have ews : wkStep os rc ws e.1 = ws := if_neg (by rw [hrc e hem]; exact h3)
          rw [est, ews]
          exact walk_go r (done ++ [e]) st ws (e.1 + 1) he2 (by omega) (by omega) hlg2 hge2 hss (by omega) hc2 hcl (fun x x1 => hz x (by omega)) (fun x x1 => hcf x (by omega)) hcfh hex
/-- what infer_starts returns is what walking over all slots shows -/
theorem walk_is (hlh : lo < hi) : infRes (offR gs tl 0 (min m (es.length + 1))) hi (logB es) (es ++ [(hi, 0)]) (inf0 hi) = wkRes os rc (hi - lo).toNat lo ⟨fun _ => 0, []⟩ := by
  refine walk_go okG okT hm ok hrc hr0 hos es [] (inf0 hi) ⟨fun _ => 0, []⟩ lo rfl (Int.le_refl _) (by omega) (fun x _ => ?_) (fun e he => (ok.bd e he).1) rfl (by show lo ≤ hi; omega) (Int.le_refl _) (fun z => absurd z (Int.lt_irrefl _)) (fun _ _ _ _ => rfl) (fun _ _ _ _ => rfl) (fun _ _ => rfl) (fun _ => Int.le_refl _)
  unfold logB
  rw [decide_eq_true_iff]
end
end RS
/-! ### a list of pairs, filtered -/
namespace RS
open PySem L2
theorem sel_filter {α : Type} (xs : List α) (f : α → Bool) (h : α → V) : ∀ i, i ≤ xs.length → selTo (fun j : Nat => (xs[j]?).bind fun c => if f c = true then some (h c) else none) i = ((xs.take i).filter f).map h
  | 0, _ => rfl
  | i + 1, hi => by
    rw [selTo_succ, sel_filter xs f h i (by omega), List.take_add_one, List.filter_append, List.map_append]
    congr 1
    rw [List.getElem?_eq_getElem (by omega)]
    show (if f xs[i] = true then some (h xs[i]) else none).toList = _
    cases e : f xs[i] <;> simp [e]
def selU (f : Pr → Bool) (us : List Addr) (ps : List Pr) : List Addr := ((us.zip ps).filter fun z => f z.2).map fun z => z.1
theorem TupsI.tail {H : Hp} {u : Addr} {us : List Addr} {p : Pr} {ps : List Pr} (t : TupsI H (u :: us) (p :: ps)) : H u = some (.tup [.int p.1, .int p.2]) ∧ TupsI H us ps := by
  obtain ⟨r, e1, e2⟩ := t.2 0 p rfl
  cases (Option.some.inj e1 : u = r)
  exact ⟨e2, Nat.succ.inj t.1, fun j q e => t.2 (j + 1) q e⟩
theorem TupsI.cons {H : Hp} {u : Addr} {us : List Addr} {p : Pr} {ps : List Pr} (h : H u = some (.tup [.int p.1, .int p.2])) (t : TupsI H us ps) : TupsI H (u :: us) (p :: ps) :=
  ⟨congrArg Nat.succ t.1, fun j q e => match j, e with
    | 0, e => ⟨u, rfl, by cases (Option.some.inj e : p = q); exact h⟩
    | j + 1, e => t.2 j q e⟩
theorem TupsI.filter {H : Hp} (f : Pr → Bool) : ∀ {us : List Addr} {ps : List Pr}, TupsI H us ps → TupsI H (selU f us ps) (ps.filter f)
  | [], [], _ => TupsI.nil
  | [], _ :: _, t => nomatch t.1
  | _ :: _, [], t => nomatch t.1
  | u :: us, p :: ps, t => by
    obtain ⟨h1, h2⟩ := t.tail
    have ih := TupsI.filter f h2
    unfold selU at ih ⊢
    rw [List.zip_cons_cons, List.filter_cons, List.filter_cons]
    by_cases h : f p = true
    · rw [if_pos h, if_pos h]
      exact TupsI.cons h1 ih
    · rw [if_neg h, if_neg h]
      exact ih
theorem zip_at {us : List Addr} {ps : List Pr} {i : Nat} {u : Addr} {p : Pr} (h1 : us[i]? = some u) (h2 : ps[i]? = some p) : (us.zip ps)[i]? = some (u, p) := by
  rw [List.getElem?_zip_eq_some]
  exact ⟨h1, h2⟩
section
variable {K : PySem.W.Frag} {a : Addr} {g : TG} {tt : TT} {te : TE} {vs : List Nat} {σ : L2.St} {H1 : Hp} {D : Addr} {Qd : Hp → Prop}
/-- a comprehension that keeps some of a list of pairs -/
theorem lc_tup {us : List Addr} {ps : List Pr} (f : Pr → Bool) (hx : SqL K H1 a (us.map V.ref)) (tp : TupsI H1 us ps) (hD : H1 D = none) (hn : us.length ≤ 100000)
    (hs : ∀ (i : Nat) (u : Addr) (p : Pr) (H : Hp) (Q : Option V → Hp → Prop), ps[i]? = some p → H u = some (.tup [.int p.1, .int p.2]) → Same H1 H → (Q (if f p = true then some (.ref u) else none) H) → g (.ref u) (wipe σ vs) H fun σ2 H2 => wipe σ2 vs = wipe σ vs ∧ tt σ2 H2 fun b H3 =>
      if b = true then te σ2 H3 fun y H4 => Q (some y) H4 else Q none H3)
    (hd : ∀ H, Same H1 H → H D = some (.lst ((selU f us ps).map V.ref)) → TupsI H (selU f us ps) (ps.filter f) → Qd H) :
    ∃ W : Nat → Nat → Hp → Prop, (∃ m, W 0 m (upd H1 D (.lst []))) ∧ ∀ i m H, W i m H →
      ((Itl K a).stop i H ∧ Qd H) ∨ ((Itl K a).go i H ∧ ∃ Nx : Hp → Prop, (∀ H', Nx H' → ∃ m', m' < m ∧ W (i + 1) m' H') ∧ ∀ x H', (Itl K a).yld i H x H' → g x (wipe σ vs) H' fun σ2 H2 => wipe σ2 vs = wipe σ vs ∧ tt σ2 H2 fun b H3 =>
        if b = true then te σ2 H3 fun y H4 => ∃ acc, H4 D = some (.lst acc) ∧ acc.length < sizeLine ∧ Nx (upd H4 D (.lst (acc ++ [y]))) else Nx H3) := by
  have hz : (us.zip ps).length = us.length := by rw [List.length_zip, tp.1, Nat.min_self]
  refine lc_sel (fun j : Nat => ((us.zip ps)[j]?).bind fun c => if f c.2 = true then some (V.ref c.1) else none) hx hD (by rw [List.length_map]; exact hn) (fun i x H Q hi S q => ?_) (fun H S h => hd H S ?_ (tp.filter f |>.same S))
  · rw [List.getElem?_map] at hi
    cases e : us[i]? with
    | none => rw [e] at hi; cases hi
    | some u =>
      rw [e] at hi
      cases hi
      have hlt := (List.getElem?_eq_some_iff.mp e).1
      have hp : ps[i]? = some (ps[i]'(by rw [← tp.1]; exact hlt)) := List.getElem?_eq_getElem _
      obtain ⟨v, e1, e2⟩ := tp.2 i _ hp
      rw [e] at e1
      cases e1
      have hq := q H (Same.refl H)
      simp only [zip_at e hp] at hq
      exact hs i u _ H Q hp (S _ _ e2) S hq
  · rw [h, List.length_map, ← hz, sel_filter (us.zip ps) (fun c => f c.2) (fun c => V.ref c.1) _ (Nat.le_refl _), List.take_length]
    unfold selU
    rw [List.map_map]
    rfl
end
end RS
namespace RS
open PySem L2
/-! ### the law's own log: counted attempt by attempt -/
def unR : V → Addr
  | .ref t => t
  | _ => 0
def keyP (H : Hp) : V → Int × Int
  | .ref t => match H t with
    | some (.tup [.int i, .int j]) => (i, j)
    | _ => (0, 0)
  | _ => (0, 0)
theorem keyP_at {H : Hp} {t : Addr} {i j : Int} (h : H t = some (.tup [.int i, .int j])) : keyP H (.ref t) = (i, j) := by
  unfold keyP
  simp only [h]
theorem keyP_all {H : Hp} : ∀ {us : List Addr} {ps : List (Int × Int)}, TupsI H us ps → (us.map V.ref).map (keyP H) = ps
  | [], [], _ => rfl
  | [], _ :: _, t => nomatch t.1
  | _ :: _, [], t => nomatch t.1
  | u :: us, p :: ps, t => by
    obtain ⟨h1, h2⟩ := t.tail
    rw [List.map_cons, List.map_cons, keyP_at h1, keyP_all h2]
/-- a list of pairs, sorted -/
theorem sorted_tups {H : Hp} {us : List Addr} {ps : List (Int × Int)} (t : TupsI H us ps) (nd : (ps.map (·.1)).Nodup) {ys : List V} (srt : SrtO.Srtd (ltP (keyP H)) ys) (perm : ys.Perm (us.map V.ref)) :
    ∃ ws es, ys = ws.map V.ref ∧ TupsI H ws es ∧ es.Perm ps ∧ es.Pairwise (fun p q => p.1 < q.1) ∧ ws.Perm us := by
  have hin : ∀ y ∈ ys, ∃ u p, y = V.ref u ∧ p ∈ ps ∧ H u = some (.tup [.int p.1, .int p.2]) := fun y hy => by
    have hy := perm.mem_iff.mp hy
    obtain ⟨i, hi⟩ := List.mem_iff_getElem?.mp hy
    obtain ⟨r, p, e1, e2, e3⟩ := t.get hi
    exact ⟨r, p, e1, List.mem_of_getElem? e2, e3⟩
  have eys : ys = (ys.map unR).map V.ref := by
    rw [List.map_map]
    have : ys.map (V.ref ∘ unR) = ys.map id := List.map_congr_left fun y hy => by
      obtain ⟨u, p, rfl, _⟩ := hin y hy
      rfl
    rw [this, List.map_id]
  have hperm : (ys.map (keyP H)).Perm ps := by
    have := perm.map (keyP H)
    rwa [keyP_all t] at this
  refine ⟨ys.map unR, ys.map (keyP H), eys, ⟨by rw [List.length_map, List.length_map], fun j p hp => ?_⟩, hperm, ?_, ?_⟩
  · rw [List.getElem?_map] at hp
    cases e : ys[j]? with
    | none => rw [e] at hp; cases hp
    | some y =>
      rw [e] at hp
      obtain ⟨u, q, rfl, _, hu⟩ := hin y (List.mem_of_getElem? e)
      refine ⟨u, by rw [List.getElem?_map, e]; rfl, ?_⟩
      have hp : keyP H (.ref u) = p := Option.some.inj hp
      rw [keyP_at hu] at hp
      rw [hu, ← hp]
  · have nd2 : ((ys.map (keyP H)).map (·.1)).Nodup := (hperm.map (·.1)).nodup_iff.mpr nd
    rw [List.map_map] at nd2
    refine List.pairwise_map.mpr ((List.Pairwise.and srt (List.pairwise_map.mp nd2)).imp fun {x y} h => ?_)
    have h1 := SrtO.lexB_no.mp h.1
    have h2 : (keyP H x).1 ≠ (keyP H y).1 := h.2
    omega
  · have := perm.map unR
    rw [List.map_map] at this
    have e : us.map (unR ∘ V.ref) = us.map id := List.map_congr_left fun _ _ => rfl
    rwa [e, List.map_id] at this
theorem tups_paired {H : Hp} {cf : Int → Int} : ∀ {ts : List Addr} {ks : List Int}, Paired (fun (t : Addr) (q : Key × V) => H t = some (.tup [kV q.1, q.2])) ts (kvI ks cf) → TupsI H ts (ks.map fun x => (x, cf x))
  | [], [], _ => TupsI.nil
  | [], _ :: _, h => nomatch h
  | _ :: _, [], h => nomatch h
  | t :: ts, k :: ks, h => by
    cases h with
    | cons h1 h2 => exact TupsI.cons h1 (tups_paired h2)
/-- the attempts of one client in a window -/
def entB (os : List Int) (lo hi b : Int) : List (Int × Int) := (os.filter fun o => decide (lo ≤ b + o ∧ b + o < hi)).map fun o => (b + o, (1 : Int))
section
variable {P : Program} {w : World} {K : PySem.W.Frag} {mg : Str → Option Value} {base : Heap}
def spCo : Sp := fun vs H Q _ => ∃ (oa wa sa : Addr) (os bs : List Int) (lo hi : Int), vs = [.ref oa, .ref wa, .ref sa] ∧ H oa = some (.lst (os.map V.int)) ∧ H wa = some (.tup [.int lo, .int hi]) ∧ H sa = some (.lst (bs.map V.int)) ∧ os.length ≤ 600 ∧ bs.length ≤ 50 ∧
  ∀ q ws es H', H q = none → (∀ a ∈ ws, H a = none) → Same H H' → H' q = some (.lst (ws.map V.ref)) → TupsI H' ws es → LogOf (bs.flatMap (entB os lo hi)) es → Q (.ref q) H'
def coN : List Str := ["_law_offsets_here", "_law_window", "_law_starts", "_law_counts", "_law_start", "_law_offset"]
theorem scCo : FnScope coN ["_law_offsets_here", "_law_window", "_law_starts"] (defScope s_law_counted) := ⟨rfl, rfl, rfl, by decide +kernel, rfl, by decide +kernel, by decide +kernel⟩
/-- what the dict holds when the entries ps are counted -/
structure CntD (H : Hp) (d : Addr) (ps : List (Int × Int)) (ks : List Int) : Prop where
  hd : H d = some (.dK (kvI ks (cntOf ps)))
  nd : ks.Nodup
  mem : ∀ x, x ∈ ks ↔ ∃ p ∈ ps, p.1 = x
theorem CntD.zero {H : Hp} {d : Addr} {ps : List (Int × Int)} {ks : List Int} (B : CntD H d ps ks) (x : Int) (h : x ∉ ks) : cntOf ps x = 0 := by
  unfold cntOf
  have e : ps.filter (fun q => decide (q.1 = x)) = [] := List.filter_eq_nil_iff.mpr fun q hq z => h ((B.mem x).mpr ⟨q, hq, of_decide_eq_true z⟩)
  rw [e]
  rfl
theorem CntD.put {H : Hp} {d : Addr} {ps : List (Int × Int)} {ks : List Int} (B : CntD H d ps ks) (x : Int) : CntD (upd H d (.dK (putK (kvI ks (cntOf ps)) (Sum.inl x) (.int (cntOf ps x + 1))))) d (ps ++ [(x, 1)]) (if x ∈ ks then ks else ks ++ [x]) := by
  refine ⟨?_, ?_, fun y => ?_⟩
  · rw [upd_same, kvI_put]
    congr 2
    congr 1
    funext y
    rw [cntOf_snoc]
  · split
    · exact B.nd
    · rename_i h
      exact List.nodup_append.mpr ⟨B.nd, List.nodup_cons.mpr ⟨(fun z => by cases z), List.nodup_nil⟩, fun a ha b hb z => h (by rw [← List.mem_singleton.mp hb, ← z]; exact ha)⟩
  · have e1 : (∃ q ∈ ps ++ [(x, (1 : Int))], q.1 = y) ↔ (∃ q ∈ ps, q.1 = y) ∨ y = x := by
      constructor
      · rintro ⟨q, hq, rfl⟩
        rcases List.mem_append.mp hq with hq | hq
        · exact .inl ⟨q, hq, rfl⟩
        · rw [List.mem_singleton.mp hq]
          exact .inr rfl
      · rintro (⟨q, hq, rfl⟩ | rfl)
        · exact ⟨q, List.mem_append_left _ hq, rfl⟩
        · exact ⟨_, List.mem_append_right _ (List.mem_singleton.mpr rfl), rfl⟩
    rw [e1, ← B.mem]
    split
    · rename_i h
      constructor
      · exact .inl
      · rintro (z | rfl)
        · exact z
        · exact h
    · rw [List.mem_append, List.mem_singleton]
theorem ok_co {f C : Addr} {fd : FuncData} (F : Fun K "_law_counted" "_law_counted" s_law_counted f fd) (T : Txt K mg C) : FnOk P w K mg base CX0 1 f fd ["_law_offsets_here", "_law_window", "_law_starts"] spCo := by
  refine F.ok scCo (fun vs H Q E h => ?_) (fun cdv A outer s H vs Q E hr h => ?_)
  · obtain ⟨oa, wa, sa, os, bs, lo, hi, rfl, _⟩ := h
    rfl
  · obtain ⟨oa, wa, sa, os, bs, lo, hi, rfl, ho, hw, hs, hol, hbl, k⟩ := h
    have hu := hu_of hr
    refine ⟨_, (pss_cons (ps_set (i := 3) scCo.nd rfl (Or.inl rfl) pe_dnewK) (pss_cons (ps_for PassesOwn.never rfl (pi_list (pv 2)) (pg_name (i := 4) scCo.nd rfl (Or.inl rfl)) (pss_one (ps_for PassesOwn.never rfl (pi_list (pv 0)) (pg_name (i := 5) scCo.nd rfl (Or.inl rfl)) (pss_one (ps_if (pt_chain op_le op_lt (pe_ix ix_tup (pv 1) pe_int (fun _ _ => rfl)) (pe_op op_add (pv 4) (pv 5)) (pe_ix ix_tup (pv 1) pe_int (fun _ _ => rfl))) (pss_one (ps_dput hu (pv 3) (pe_op op_add (pv 4) (pv 5)) (pe_op op_add (pe_dget2 hu (pv 3) (pe_op op_add (pv 4) (pv 5)) pe_int ⟨by rfl, by rfl, by rfl, by rfl⟩) pe_int) rfl)) pss_nil))))) (pss_one (ps_ret (pe_callB cr_sortedPO (by rfl) T.sorted (by decide +kernel) (pa_cons (LiI.pe_listItems rfl (pv 3) (by rfl) T.list (by decide +kernel)) pa_nil)))))), ?_⟩
    intro d hd
    have S0 : Same H (upd H d (.dK [])) := same_new hd
    refine ⟨_, rfl, sa, rfl, ⟨_, SqL.of (S0 _ _ hs)⟩, for_list (a := sa) (xs := bs.map V.int) (fun i σ H' => ∃ (v4 v5 : Option V) (ks : List Int), σ = [some (.ref oa), some (.ref wa), some (.ref sa), some (.ref d), v4, v5] ∧ Same H H' ∧ CntD H' d ((bs.take i).flatMap (entB os lo hi)) ks ∧ ks.length ≤ 600 * i)
      ⟨none, none, [], rfl, S0, ⟨upd_same, List.nodup_nil, fun x => ⟨(fun h => nomatch h), fun ⟨p, hp, _⟩ => nomatch hp⟩⟩, Nat.le_refl _⟩ (fun i σ H' _ ⟨_, _, _, _, S, _⟩ => SqL.of (S _ _ hs)) ?_ ?_⟩
    · rintro i x σ H1 hx ⟨v4, v5, ks, rfl, S1, B1, hkl⟩
      obtain ⟨b, hb, rfl⟩ := map_of hx
      have hi50 : i < 50 := Nat.lt_of_lt_of_le (List.getElem?_eq_some_iff.mp hb).1 hbl
      refine ⟨_, rfl, oa, rfl, ⟨_, SqL.of (S1 _ _ ho)⟩, for_list (a := oa) (xs := os.map V.int) (fun j σ H' => ∃ (v5 : Option V) (ks : List Int), σ = [some (.ref oa), some (.ref wa), some (.ref sa), some (.ref d), some (.int b), v5] ∧ Same H H' ∧ CntD H' d ((bs.take i).flatMap (entB os lo hi) ++ entB (os.take j) lo hi b) ks ∧ ks.length ≤ 600 * i + j)
        ⟨v5, ks, rfl, S1, by rw [List.take_zero]; show CntD _ _ (_ ++ []) _; rw [List.append_nil]; exact B1, hkl⟩ (fun j σ H' _ ⟨_, _, _, S, _⟩ => SqL.of (S _ _ ho)) ?_ ?_⟩
      · rintro j y σ H2 hy ⟨v5', ks2, rfl, S2, B2, hkl2⟩
        obtain ⟨o, ho', rfl⟩ := map_of hy
        have hj6 : j < 600 := Nat.lt_of_lt_of_le (List.getElem?_eq_some_iff.mp ho').1 hol
        have hw2 := S2 _ _ hw
        have etk : entB (os.take (j + 1)) lo hi b = if lo ≤ b + o ∧ b + o < hi then entB (os.take j) lo hi b ++ [(b + o, 1)] else entB (os.take j) lo hi b := by
          unfold entB
          rw [List.take_add_one, ho', List.filter_append, List.map_append]
          show _ ++ ([o].filter _).map _ = _
          rw [List.filter_cons]
          by_cases z : lo ≤ b + o ∧ b + o < hi
          · rw [if_pos z, if_pos (decide_eq_true z)]
            rfl
          · rw [if_neg z, if_neg (fun q => z (of_decide_eq_true q))]
            exact List.append_nil _
        refine ⟨_, rfl, wa, _, _, _, rfl, rfl, SqT.of hw2, atI_nat (j := 0) rfl, _, rfl, _, rfl, _, _, rfl, rfl, _, _, rfl, rfl, _, rfl, ?_⟩
        by_cases z1 : lo ≤ b + o
        · refine iteTb (decide_eq_true z1) ?_
          refine ⟨_, rfl, wa, _, _, _, rfl, rfl, SqT.of hw2, atI_nat (j := 1) rfl, _, _, rfl, rfl, _, rfl, ?_⟩
          by_cases z2 : b + o < hi
          · refine iteTb (decide_eq_true z2) ?_
            refine ⟨_, rfl, d, rfl, .inl ⟨_, .inl B2.hd⟩, _, rfl, _, rfl, _, _, rfl, rfl, _, DGet.k (k := Sum.inl (b + o)) B2.hd, ?_⟩
            rw [kvI_get0 B2.zero]
            refine ⟨_, _, rfl, rfl, _, rfl, _, rfl, _, rfl, _, _, rfl, rfl, d, _, rfl, DPut.k (k := Sum.inl (b + o)) B2.hd (by rw [kvI_len]; exact small_line (by omega)), ?_⟩
            refine ⟨_, _, rfl, same_app hd S2, by rw [etk, if_pos ⟨z1, z2⟩, ← List.append_assoc]; exact B2.put (b + o), ?_⟩
            split
            · omega
            · rw [List.length_append]
              show _ + 1 ≤ _
              omega
          · refine iteFb (decide_eq_false z2) ?_
            exact ⟨_, ks2, rfl, S2, by rw [etk, if_neg (fun z => z2 z.2)]; exact B2, by omega⟩
        · refine iteFb (decide_eq_false z1) ?_
          exact ⟨_, rfl, iteF ⟨_, ks2, rfl, S2, by rw [etk, if_neg (fun z => z1 z.1)]; exact B2, by omega⟩⟩
      · rintro σ H2 ⟨v5', ks2, rfl, S2, B2, hkl2⟩
        rw [List.length_map] at B2 hkl2
        rw [List.take_length] at B2
        refine ⟨_, _, ks2, rfl, S2, ?_, by omega⟩
        rw [List.take_add_one, hb, List.flatMap_append]
        simpa using B2
    rintro σ H1 ⟨v4, v5, ks, rfl, S1, B1, hkl⟩
    rw [List.length_map] at B1 hkl
    rw [List.take_length] at B1
    refine ⟨_, rfl, d, _, rfl, B1.hd, fun H2 p ts kp hp hts hpt hpl hpair => ?_⟩
    have tp := tups_paired hpair
    have ndk : ((ks.map fun x => (x, cntOf (bs.flatMap (entB os lo hi)) x)).map (·.1)).Nodup := by
      rw [List.map_map]
      have : ks.map ((fun p : Int × Int => p.1) ∘ fun x => (x, cntOf (bs.flatMap (entB os lo hi)) x)) = ks.map id := List.map_congr_left fun _ _ => rfl
      rw [this, List.map_id]
      exact B1.nd
    refine ⟨p, ts.map V.ref, keyP H2, rfl, SqL.of hpl, fun x hx => ?_, fun ys q srt stb hq => ?_⟩
    · obtain ⟨i, hi⟩ := List.mem_iff_getElem?.mp hx
      obtain ⟨r, e, rfl, _, hr⟩ := tp.get hi
      exact ⟨r, rfl, by rw [keyP_at hr]; exact hr⟩
    · obtain ⟨ws, es, rfl, tw, hpe, asc, hpw⟩ := sorted_tups tp ndk srt stb.perm
      have S2 : Same H1 H2 := kp
      have s3 := same_new (o := .lst (ws.map V.ref)) hq
      refine k q ws es _ ((S1.trans S2).free hq) (fun a ha => S1.free (hts a (hpw.mem_iff.mp ha))) ((S1.trans S2).trans s3) upd_same (tw.same s3) ⟨asc, fun e he => ?_, fun x => ?_⟩
      · obtain ⟨x, _, rfl⟩ := List.mem_map.mp (hpe.mem_iff.mp he)
        rfl
      · rw [← B1.mem]
        constructor
        · rintro ⟨e, he, rfl⟩
          obtain ⟨x, hx, rfl⟩ := List.mem_map.mp (hpe.mem_iff.mp he)
          exact hx
        · intro hx
          exact ⟨_, hpe.mem_iff.mpr (List.mem_map.mpr ⟨x, hx, rfl⟩), rfl⟩
end
end RS
namespace RS
open PySem L2
/-! ### the plan of a rule with small gaps -/
def planO (gs : List Int) (tl : Tl) : List Int := (offL gs tl (manyC gs 260 tl)).filter fun o => decide (o < 260)
theorem off_ge {gs : List Int} {tl : Tl} (okG : GapsOk gs) (okT : TlOk gs.length tl) {i : Nat} (h : AttOk gs tl i) : (i : Int) ≤ off gs tl i := by
  have := off_mono okG okT 0 i (fun e => by rw [Nat.zero_add]; exact h.fin e)
  rw [off_low (Nat.zero_le _), pre_zero, Nat.zero_add] at this
  omega
theorem plan_many {gs : List Int} {tl : Tl} (okG : GapsOk gs) {i : Nat} (h : i < manyC gs 260 tl) : AttOk gs tl i := by
  cases tl with
  | fin =>
    have : i < min 260 (gs.length + 1) := h
    show i ≤ gs.length
    omega
  | times b =>
    have : i < 260 := h
    show i ≤ 1000
    omega
  | rep m => trivial
theorem plan_mem {gs : List Int} {tl : Tl} (okG : GapsOk gs) (okT : TlOk gs.length tl) {o : Int} : o ∈ planO gs tl ↔ o < 260 ∧ AtD gs tl o := by
  unfold planO offL
  rw [List.mem_filter, decide_eq_true_iff]
  constructor
  · rintro ⟨h1, h2⟩
    obtain ⟨i, hi, rfl⟩ := List.mem_map.mp h1
    exact ⟨h2, i, plan_many okG (List.mem_range.mp hi), rfl⟩
  · rintro ⟨h2, i, ok, rfl⟩
    refine ⟨List.mem_map.mpr ⟨i, List.mem_range.mpr ?_, rfl⟩, h2⟩
    have := off_ge okG okT ok
    cases tl with
    | fin =>
      have ok : i ≤ gs.length := ok
      show i < min 260 (gs.length + 1)
      omega
    | times b => show i < 260; omega
    | rep m => show i < 260; omega
theorem plan_asc {gs : List Int} {tl : Tl} (okG : GapsOk gs) (okT : TlOk gs.length tl) : (planO gs tl).Pairwise (· < ·) := by
  unfold planO offL
  refine List.Pairwise.sublist List.filter_sublist (List.pairwise_map.mpr ((List.pairwise_lt_range (n := manyC gs 260 tl)).imp_of_mem fun {i j} _ hj hij => ?_))
  exact off_lt okG okT hij (plan_many okG (List.mem_range.mp hj)).fin
theorem plan_len {gs : List Int} {tl : Tl} : (planO gs tl).length ≤ 260 := by
  unfold planO
  refine Nat.le_trans (List.length_filter_le ..) ?_
  rw [offL_len]
  cases tl with
  | fin => show min 260 (gs.length + 1) ≤ 260; omega
  | times b => exact Nat.le_refl _
  | rep m => exact Nat.le_refl _
theorem plan_nonneg {gs : List Int} {tl : Tl} (okG : GapsOk gs) (okT : TlOk gs.length tl) {o : Int} (h : o ∈ planO gs tl) : 0 ≤ o := by
  obtain ⟨_, i, ok, rfl⟩ := (plan_mem okG okT).mp h
  exact off_pos okG okT ok
theorem plan_cons {gs : List Int} {tl : Tl} (okG : GapsOk gs) (okT : TlOk gs.length tl) : planO gs tl = 0 :: (planO gs tl).drop 1 := by
  have h0 : (0 : Int) ∈ planO gs tl := (plan_mem okG okT).mpr ⟨by decide, 0, AttOk.low okG (Nat.zero_le _), by rw [off_low (Nat.zero_le _), pre_zero]⟩
  have asc := plan_asc okG okT
  have nn : ∀ o ∈ planO gs tl, 0 ≤ o := fun o h => plan_nonneg okG okT h
  cases e : planO gs tl with
  | nil => rw [e] at h0; cases h0
  | cons x r =>
    rw [e] at h0 asc nn
    have hx := nn x (List.mem_cons_self ..)
    have : x = 0 := by
      rcases List.mem_cons.mp h0 with z | z
      · exact z.symm
      · have := (List.pairwise_cons.mp asc).1 0 z
        omega
    rw [this]
    rfl
/-- the later offsets, told by the attempts -/
theorem plan_later {gs : List Int} {tl : Tl} (okG : GapsOk gs) (okT : TlOk gs.length tl) {d : Int} (h0 : 0 < d) (h1 : d < 260) : (((planO gs tl).drop 1).count d = 1 ∧ AtD gs tl d) ∨ (((planO gs tl).drop 1).count d = 0 ∧ ¬ AtD gs tl d) := by
  have asc := plan_asc okG okT
  have e := plan_cons okG okT
  have hm : d ∈ (planO gs tl).drop 1 ↔ AtD gs tl d := by
    have h2 : d ∈ planO gs tl ↔ d ∈ (planO gs tl).drop 1 := by
      constructor
      · intro z
        rw [e] at z
        rcases List.mem_cons.mp z with z | z
        · omega
        · exact z
      · exact fun z => List.mem_of_mem_drop z
    rw [← h2, plan_mem okG okT]
    exact ⟨fun z => z.2, fun z => ⟨h1, z⟩⟩
  have nd : ((planO gs tl).drop 1).Nodup := (asc.sublist (List.drop_sublist 1 _)).imp fun {x y} z e => by omega
  rw [nodup_count nd]
  by_cases z : AtD gs tl d
  · exact .inl ⟨if_pos (hm.mpr z), z⟩
  · exact .inr ⟨if_neg (fun y => z (hm.mp y)), z⟩
/-- near distances -/
theorem near_ex {gs : List Int} {tl : Tl} (okG : GapsOk gs) (okT : TlOk gs.length tl) {d : Int} (h : d ≤ 500) : HD gs tl d ∧ ∃ n, n ≤ 501 ∧ CntB gs tl d n := by
  have h20 := okG.1
  cases tl with
  | fin =>
    refine ⟨trivial, ?_⟩
    by_cases z : d ≤ pre gs gs.length
    · obtain ⟨n, hn, c⟩ := cnt_ex okG okT (N := gs.length) (d := d) (Nat.le_refl _) (by rw [off_low (Nat.le_refl _)]; exact z)
      exact ⟨n, by omega, c⟩
    · exact ⟨gs.length + 1, by omega, cnt_fin okG (by omega)⟩
  | times b =>
    have h1 := off_ge okG okT (i := 1000) (tl := .times b) (Nat.le_refl _)
    have h2 := off_ge okG okT (i := 500) (tl := .times b) (show 500 ≤ 1000 by omega)
    refine ⟨by show d ≤ _; omega, ?_⟩
    obtain ⟨n, hn, c⟩ := cnt_ex okG okT (N := 500) (d := d) (tl := .times b) (show 500 ≤ 1000 by omega) (by omega)
    exact ⟨n, by omega, c⟩
  | rep m =>
    have h2 := off_ge okG okT (i := 500) (tl := .rep m) trivial
    refine ⟨by show d < 2 ^ 200; omega, ?_⟩
    obtain ⟨n, hn, c⟩ := cnt_ex okG okT (N := 500) (d := d) (tl := .rep m) trivial (by omega)
    exact ⟨n, by omega, c⟩
open Classical in
theorem near_all {gs : List Int} {tl : Tl} (okG : GapsOk gs) (okT : TlOk gs.length tl) {lo hi : Int} (h : hi - lo ≤ 500) : ∃ f : Int → Nat, ∀ b, lo ≤ b → f b ≤ 501 ∧ CntB gs tl (hi - b) (f b) := by
  have ex : ∀ b, lo ≤ b → ∃ n, n ≤ 501 ∧ CntB gs tl (hi - b) n := fun b hb => (near_ex okG okT (d := hi - b) (by omega)).2
  refine ⟨fun b => if hb : lo ≤ b then (ex b hb).choose else 0, fun b hb => ?_⟩
  have := (ex b hb).choose_spec
  simp only [dif_pos hb]
  exact this
/-- what the law counts of one client is what is expected of it -/
theorem ent_slot {gs : List Int} {tl : Tl} (okG : GapsOk gs) (okT : TlOk gs.length tl) {lo hi b : Int} {n : Nat} (hb : lo ≤ b) (hw : hi - lo ≤ 260) (c : CntB gs tl (hi - b) n) : entB (planO gs tl) lo hi b = (slotR gs tl b 0 n).map fun s => (s, (1 : Int)) := by
  have e : ((planO gs tl).filter fun o => decide (lo ≤ b + o ∧ b + o < hi)).map (fun o => b + o) = slotR gs tl b 0 n := by
    refine pw_ext (r := fun x y : Int => x < y) (fun x => Int.lt_irrefl x) (fun x y h => by omega) ?_ (slot_asc okG okT fun i hi => (c.low i hi).1) fun x => ?_
    · exact List.pairwise_map.mpr (((plan_asc okG okT).sublist List.filter_sublist).imp fun {x y} h => by omega)
    · rw [slot_mem, List.mem_map]
      constructor
      · rintro ⟨o, ho, rfl⟩
        obtain ⟨h1, h2⟩ := List.mem_filter.mp ho
        obtain ⟨h3, h4⟩ := of_decide_eq_true h2
        obtain ⟨_, i, ok, rfl⟩ := (plan_mem okG okT).mp h1
        refine ⟨i, Nat.lt_of_not_le fun z => ?_, rfl⟩
        have := c.high i z ok
        omega
      · rintro ⟨i, hi', rfl⟩
        obtain ⟨ok, hlt⟩ := c.low i hi'
        have h0 := off_pos okG okT ok
        exact ⟨off gs tl i, List.mem_filter.mpr ⟨(plan_mem okG okT).mpr ⟨by omega, i, ok, rfl⟩, decide_eq_true ⟨by omega, by omega⟩⟩, rfl⟩
  unfold entB
  rw [← e, List.map_map]
  rfl
theorem asc_len {lo hi : Int} : ∀ {l : List Int}, l.Pairwise (· < ·) → (∀ x ∈ l, lo ≤ x ∧ x < hi) → (l.length : Int) ≤ max 0 (hi - lo)
  | [], _, _ => by show (0 : Int) ≤ _; omega
  | x :: l, h, hb => by
    obtain ⟨h1, h2⟩ := List.pairwise_cons.mp h
    have hx := hb x (List.mem_cons_self ..)
    have ih := asc_len (lo := x + 1) (hi := hi) h2 fun y hy => ⟨by have := h1 y hy; omega, (hb y (List.mem_cons_of_mem _ hy)).2⟩
    rw [List.length_cons]
    omega
section
variable {P : Program} {w : World} {K : PySem.W.Frag} {mg : Str → Option Value} {base : Heap}
/-! ### _law_plan -/
def spPl : Sp := fun vs H Q _ => ∃ (a wl : Addr) (ws : List Str) (b : Nat), vs = [.ref a, .ref wl] ∧ Src H a b ∧ b ≤ 40000 ∧ wl ≠ a ∧ H wl = some (.lst (ws.map V.str)) ∧ WordsOk ws ∧
  ∀ (u g t oa : Addr) (gs : List Int) (tl : Tl) (H' : Hp), g ≠ a → t ≠ a → oa ≠ a → H' u = some (.tup [.ref g, .ref t, .ref oa]) → H' g = some (.lst (gs.map V.int)) → H' t = some (.tup tl.vs) → H' oa = some (.lst ((planO gs tl).map V.int)) → GapsOk gs → TlOk gs.length tl → Kx a H H' → Src H' a (b + 21) → Q (.ref u) H'
def plN : List Str := ["_law_source", "_law_words", "_law_gaps", "_law_tail_here", "_law_offsets_here", "_law_gap", "_law_offset"]
theorem scPl : FnScope plN ["_law_source", "_law_words"] (defScope s_law_plan) := ⟨rfl, rfl, rfl, by decide +kernel, rfl, by decide +kernel, by decide +kernel⟩
theorem ok_pl {f C fN fO fTl fOf : Addr} {fd fdN fdO fdTl fdOf : FuncData} (F : Fun K "_law_plan" "_law_plan" s_law_plan f fd) (T : Txt K mg C)
    (GN : FnOk P w K mg base CX0 1 fN fdN ["_law_source", "_law_bound"] spNext) (bN : Binds K fdN ["_law_source", "_law_bound"] []) (mN : mg "_law_draw" = some (.ref fN)) (kN : PySem.W.keepIn K (.ref fN) = true)
    (GO : FnOk P w K mg base CX0 2 fO fdO ["_law_source", "_law_options"] spOne) (bO : Binds K fdO ["_law_source", "_law_options"] []) (mO : mg "_law_choice" = some (.ref fO)) (kO : PySem.W.keepIn K (.ref fO) = true)
    (GTl : FnOk P w K mg base CX0 3 fTl fdTl ["_law_source", "_law_gaps", "_law_words"] spTl) (bTl : Binds K fdTl ["_law_source", "_law_gaps", "_law_words"] []) (mTl : mg "_law_tail" = some (.ref fTl)) (kTl : PySem.W.keepIn K (.ref fTl) = true)
    (GOf : FnOk P w K mg base CX0 1 fOf fdOf ["_law_gaps", "_law_tail_here", "_law_count"] spOfs) (bOf : Binds K fdOf ["_law_gaps", "_law_tail_here", "_law_count"] []) (mOf : mg "_law_offsets" = some (.ref fOf)) (kOf : PySem.W.keepIn K (.ref fOf) = true) : FnOk P w K mg base CX0 4 f fd ["_law_source", "_law_words"] spPl := by
  refine F.ok scPl (fun vs H Q E h => ?_) (fun cdv A outer s H vs Q E hr h => ?_)
  · obtain ⟨a, wl, ws, b, rfl, _⟩ := h
    rfl
  · obtain ⟨a, wl, ws, b, rfl, S, hb, nwl, hwl, okW, k⟩ := h
    have hr1 := hr.mono (show 1 ≤ 3 by decide)
    have hr2 := hr.mono (show 2 ≤ 3 by decide)
    refine ⟨_, (pss_cons (ps_setLc (i := 2) (own := [("_law_gap", 5)]) (g := gName 5) (tt := tYes) (by rfl) scPl.nd rfl rfl (sw_true rfl rfl rfl (by decide +kernel)) (pi_range1 rfl T.range (pa_cons (pe_call GN hr1 rfl mN kN bN .nil pass0 (pa_cons (pv 0) (pa_cons pe_int pa_nil))) pa_nil)) (blkOk_by (own := [("_law_gap", 5)]) (N := plN) (sc := (defScope s_law_plan)) (by decide +kernel)) (fun _ _ _ _ _ => (pg_name (i := 5) scPl.nd rfl (Or.inl rfl))) (fun _ _ _ _ _ => pts_nil) (fun _ _ _ _ _ => (pe_op op_add pe_int (pe_call GN hr1 rfl mN kN bN .nil pass0 (pa_cons (pv 0) (pa_cons (pe_call GO hr2 rfl mO kO bO .nil pass0 (pa_cons (pv 0) (pa_cons (pe_lst (pa_cons pe_int (pa_cons pe_int (pa_cons pe_int (pa_cons pe_int pa_nil))))) pa_nil))) pa_nil)))))) (pss_cons (ps_set (i := 3) scPl.nd rfl (Or.inl rfl) (pe_call GTl hr rfl mTl kTl bTl .nil pass0 (pa_cons (pv 0) (pa_cons (pv 2) (pa_cons (pv 1) pa_nil))))) (pss_cons (ps_set (i := 4) scPl.nd rfl (Or.inl rfl) (pe_call GOf hr1 rfl mOf kOf bOf .nil pass0 (pa_cons (pv 2) (pa_cons (pv 3) (pa_cons pe_int pa_nil))))) (pss_one (ps_ret (pe_tup (pa_cons (pv 2) (pa_cons (pv 3) (pa_cons (pe_lc (own := [("_law_offset", 6)]) (g := gName 6) rfl scPl.nd (pi_list (pv 4)) (blkOk_by (own := [("_law_offset", 6)]) (N := plN) (sc := (defScope s_law_plan)) (by decide +kernel)) (fun _ _ _ _ _ => (pg_name (i := 6) scPl.nd rfl (Or.inl rfl))) (fun _ _ _ _ _ => pts_one (pt_cmpR op_lt (pv 6) pe_int (nomark _))) (fun _ _ _ _ _ => (pv 6))) pa_nil))))))))), ?_⟩
    refine ⟨_, rfl, a, 6, b, rfl, S, by omega, by decide, by decide, fun cn H2 cn0 cn1 kx2 R2 => ?_⟩
    refine ⟨cn, rfl, by omega, by omega, fun D hD => ?_⟩
    have naD : a ≠ D := R2.new hD
    refine lc_range (lo := 0) (n := cn.toNat) (fun i H' => ∃ gs : List Int, gs.length = i ∧ (∀ g ∈ gs, 1 ≤ g ∧ g ≤ 1000000000000) ∧ H' D = some (.lst (gs.map V.int)) ∧ Kx a H2 H' ∧ Src H' a (b + 1 + 2 * i)) ⟨[], rfl, fun g hg => (nomatch hg), upd_same, Kx.of (same_new hD), R2.mono (same_new hD)⟩ (fun i H' hi z => ?_) (fun H3 z => ?_)
    · obtain ⟨gs, hl, hg, hd, kx, R⟩ := z
      refine ⟨rfl, ?_⟩
      refine yes_t (iteT ?_)
      refine ⟨_, rfl, _, rfl, (by show 4 ≤ sizeLine; decide), fun q hq => ?_⟩
      have Sq : Same H' (upd H' q (.lst [.int 2, .int 5, .int 9, .int 30])) := same_new hq
      refine ⟨a, q, _, b + 1 + 2 * i, rfl, R.mono Sq, by omega, (R.new hq).symm, upd_same, by show 0 < 4; decide, by show 4 < 1000; decide, fun x H4 hx kx4 R4 => ?_⟩
      obtain ⟨wd, rfl, wd1, wd2⟩ : ∃ wd : Int, x = .int wd ∧ 1 ≤ wd ∧ wd ≤ 30 := by
        simp only [List.mem_cons, List.not_mem_nil, or_false] at hx
        rcases hx with rfl | rfl | rfl | rfl <;> exact ⟨_, rfl, by decide, by decide⟩
      have kx04 := (kx.trans (Kx.of Sq)).trans kx4
      have hd4 := kx4 D _ naD.symm (Sq _ _ hd)
      refine ⟨a, wd, b + 1 + 2 * i + 1, rfl, R4, by omega, wd1, by omega, fun r H5 r0 r1 kx5 R5 => ⟨_, _, rfl, rfl, gs.map V.int, kx5 D _ naD.symm hd4, ?_, gs ++ [1 + r], ?_, ?_, ?_, ?_, ?_⟩⟩
      · rw [List.length_map]
        exact small1000 (by omega)
      · rw [List.length_append, hl]
        rfl
      · intro g hm
        rcases List.mem_append.mp hm with hm | hm
        · exact hg g hm
        · obtain rfl := List.mem_singleton.mp hm
          omega
      · rw [upd_same, List.map_append]
        rfl
      · intro c u n e
        rw [upd_ne (ne_of_none e hD)]
        exact kx5 c u n (kx04 c u n e)
      · obtain ⟨s0, s1, s2, h1, h2⟩ := R5.ex
        exact ⟨s0, s1, s2, by rw [upd_ne naD]; exact h1, by omega⟩
    obtain ⟨gs, hgl, hg, hd, kx, R3⟩ := z
    have okG : GapsOk gs := ⟨by omega, hg⟩
    have KA : Kx a H H3 := kx2.trans kx
    have R3' := R3.le (show b + 1 + 2 * cn.toNat ≤ b + 11 by omega)
    have hwl3 := KA _ _ nwl hwl
    clear kx R2 kx2 R3 S
    refine ⟨_, rfl, _, rfl, _, rfl, a, D, wl, gs, ws, b + 11, rfl, R3', by omega, naD.symm, nwl, hd, okG, hwl3, okW, fun t tl H4 nta ht okT _ kx4 R4 => ?_⟩
    have hd4 := kx4 _ _ naD.symm hd
    refine ⟨_, rfl, _, rfl, D, t, gs, tl, 260, rfl, by decide, by decide, hd4, ht, okG, okT, fun ofs H5 hofs S5 hO => ?_⟩
    have hO : H5 ofs = some (.lst ((offL gs tl (manyC gs 260 tl)).map V.int)) := hO
    have R5 := R4.mono S5
    have hol : (offL gs tl (manyC gs 260 tl)).length ≤ 260 := by
      rw [offL_len]
      cases tl with
      | fin => show min 260 (gs.length + 1) ≤ 260; omega
      | times b => exact Nat.le_refl _
      | rep m => exact Nat.le_refl _
    have epl : planO gs tl = (offL gs tl (manyC gs 260 tl)).filter fun o => decide (o < 260) := rfl
    generalize offL gs tl (manyC gs 260 tl) = os at hO hol epl
    refine ⟨_, rfl, _, rfl, _, rfl, ofs, rfl, ⟨_, SqL.of hO⟩, fun D2 hD2 => lc_sel (a := ofs) (xs := os.map V.int) (fun j => (os[j]?).bind fun o => if decide (o < 260) then some (V.int (id o)) else none) (SqL.of hO) hD2 (by rw [List.length_map]; omega) (fun j x H12 Q12 hx Sx qq => ?_) (fun H6 S6 h6 => ?_)⟩
    · obtain ⟨z, hz, rfl⟩ := map_of hx
      have qq : ∀ H', Same H12 H' → Q12 (if decide (z < 260) then some (V.int z) else none) H' := fun H' S' => by
        have := qq H' S'
        rw [hz] at this
        exact this
      refine ⟨rfl, ?_⟩
      refine ⟨_, rfl, _, _, rfl, rfl, _, rfl, ?_⟩
      by_cases hb : z < 260
      · rw [decide_eq_true hb] at qq
        exact iteTb (decide_eq_true hb) ⟨_, rfl, qq H12 (Same.refl _)⟩
      · rw [decide_eq_false hb] at qq
        exact iteFb (decide_eq_false hb) (qq H12 (Same.refl _))
    rw [List.length_map, selTo_fm os (fun o => decide (o < 260)) id _ (Nat.le_refl _), List.take_length, List.map_id, ← epl] at h6
    refine ⟨by show 3 ≤ sizeLine; decide, fun u hu => ?_⟩
    have s7 := same_new (o := .tup [V.ref D, V.ref t, V.ref D2]) hu
    have S57 := S6.trans s7
    exact k u D t D2 gs tl _ naD.symm nta (R5.new hD2).symm upd_same (S57 _ _ (S5 _ _ hd4)) (S57 _ _ (S5 _ _ ht)) (s7 _ _ h6) okG okT (((KA.trans kx4).trans (Kx.of S5)).trans (Kx.of S57)) ((R5.mono S57).le (by omega))
end
end RS
namespace RS
open PySem L2
section
variable {gs : List Int} {tl : Tl} {lo hi : Int} {bs : List Int} {fN : Int → Nat} {es : List (Int × Int)} {m : Nat} {s0 : Int}
  (okG : GapsOk gs) (okT : TlOk gs.length tl) (hb : ∀ b ∈ bs, lo ≤ b ∧ b < hi) (hN : ∀ b ∈ bs, CntB gs tl (hi - b) (fN b))
  (lg : LogOf (bs.flatMap fun b => (slotR gs tl b 0 (fN b)).map fun s => (s, (1 : Int))) es) (hm : CntB gs tl (hi - lo) m)
include okG okT hb hN lg
theorem in_one {e : Int × Int} (h : e ∈ es) : 1 ≤ e.2 := by
  rw [in_cnt okG okT hb hN lg h]
  obtain ⟨b, hbm, hx⟩ := (in_mem okG okT hb hN lg e.1).mp ⟨e, h, rfl⟩
  have : b ∈ bs.filter fun b => decide (e.1 ∈ slotR gs tl b 0 (fN b)) := List.mem_filter.mpr ⟨hbm, decide_eq_true hx⟩
  have := List.length_pos_of_mem this
  show (1 : Int) ≤ ((bs.filter fun b => decide (e.1 ∈ slotR gs tl b 0 (fN b))).length : Nat)
  omega
end
end RS
namespace RS
open PySem L2
/-! ### dict(log)[slot] -/
def pairK (e : Int × Int) : Key × V := (Sum.inl e.1, V.int e.2)
theorem merge_no {s : Int} : ∀ {r : List (Int × Int)} {acc : List (Key × V)}, (∀ p ∈ r, p.1 ≠ s) → valV (mergeK acc (r.map pairK)) (Sum.inl s) = valV acc (Sum.inl s)
  | [], _, _ => rfl
  | e :: r, acc, h => by
    show valV (mergeK (putK acc (Sum.inl e.1) (V.int e.2)) (r.map pairK)) (Sum.inl s) = _
    rw [merge_no fun p hp => h p (List.mem_cons_of_mem _ hp), valV_put, if_neg (fun z => h e (List.mem_cons_self ..) (Sum.inl.inj z).symm)]
theorem merge_get {s c : Int} : ∀ {r : List (Int × Int)} {acc : List (Key × V)}, r.Pairwise (fun p q => p.1 < q.1) → (s, c) ∈ r → valV (mergeK acc (r.map pairK)) (Sum.inl s) = some (.int c)
  | [], _, _, h => nomatch h
  | e :: r, acc, asc, h => by
    obtain ⟨a1, a2⟩ := List.pairwise_cons.mp asc
    show valV (mergeK (putK acc (Sum.inl e.1) (V.int e.2)) (r.map pairK)) (Sum.inl s) = _
    rcases List.mem_cons.mp h with h | h
    · subst h
      rw [merge_no fun p hp z => by have := a1 p hp; simp only at this; omega, valV_put, if_pos rfl]
    · exact merge_get a2 h
theorem paired_of {K : PySem.W.Frag} {H : Hp} : ∀ {us : List Addr} {es : List (Int × Int)}, TupsI H us es → Paired (fun p kv => SqT K H p [kV kv.1, kv.2]) us (es.map pairK)
  | [], [], _ => .nil
  | [], _ :: _, h => nomatch h.1
  | _ :: _, [], h => nomatch h.1
  | u :: us, e :: es, h => by
    have h1 : H u = some (.tup [.int e.1, .int e.2]) := by
      obtain ⟨r, e1, e2⟩ := h.2 0 e rfl
      cases e1
      exact e2
    have h2 : TupsI H us es := ⟨Nat.succ.inj h.1, fun j p hp => h.2 (j + 1) p hp⟩
    exact .cons (SqT.of h1) (paired_of h2)
end RS
namespace RS
open PySem L2
/-- what a log says of a slot -/
def recO : List (Int × Int) → Int → Int
  | [], _ => 0
  | e :: r, x => if e.1 = x then e.2 else recO r x
theorem recO_at : ∀ {es : List (Int × Int)}, es.Pairwise (fun p q => p.1 < q.1) → ∀ {e : Int × Int}, e ∈ es → recO es e.1 = e.2
  | [], _, _, h => nomatch h
  | e :: r, asc, x, h => by
    obtain ⟨a1, a2⟩ := List.pairwise_cons.mp asc
    show (if e.1 = x.1 then e.2 else recO r x.1) = x.2
    rcases List.mem_cons.mp h with rfl | h
    · rw [if_pos rfl]
    · have := a1 x h
      rw [if_neg (by omega), recO_at a2 h]
theorem recO_no : ∀ {es : List (Int × Int)} {x : Int}, logB es x = false → recO es x = 0
  | [], _, _ => rfl
  | e :: r, x, h => by
    have h := of_decide_eq_false h
    show (if e.1 = x then e.2 else recO r x) = 0
    rw [if_neg (fun z => h ⟨e, List.mem_cons_self .., z⟩)]
    exact recO_no (decide_eq_false fun ⟨p, hp, z⟩ => h ⟨p, List.mem_cons_of_mem _ hp, z⟩)
theorem merge_kv : ∀ {es : List (Int × Int)} {acc : List (Key × V)}, es.Pairwise (fun p q => p.1 < q.1) → (∀ e ∈ es, valV acc (Sum.inl e.1) = none) → mergeK acc (es.map pairK) = acc ++ es.map pairK
  | [], acc, _, _ => (List.append_nil acc).symm
  | e :: r, acc, asc, h => by
    obtain ⟨a1, a2⟩ := List.pairwise_cons.mp asc
    have he := h e (List.mem_cons_self ..)
    have e1 : putK acc (Sum.inl e.1) (V.int e.2) = acc ++ [pairK e] := by
      unfold putK
      rw [valV_any, he]
      rfl
    show mergeK (putK acc (Sum.inl e.1) (V.int e.2)) (r.map pairK) = _
    rw [e1, merge_kv a2 fun x hx => ?_, List.append_assoc]
    · rfl
    · rw [← e1, valV_put, if_neg (fun z => by have := a1 x hx; have z := Sum.inl.inj z; omega)]
      exact h x (List.mem_cons_of_mem _ hx)
theorem rec_kv : ∀ {es : List (Int × Int)}, es.Pairwise (fun p q => p.1 < q.1) → es.map pairK = kvI (es.map (·.1)) (recO es) := fun {es} asc => by
  unfold kvI
  rw [List.map_map]
  refine List.map_congr_left fun e he => ?_
  show (Sum.inl e.1, V.int e.2) = (Sum.inl e.1, V.int (recO es e.1))
  rw [recO_at asc he]
/-- dict(log) -/
theorem dict_log {es : List (Int × Int)} (asc : es.Pairwise (fun p q => p.1 < q.1)) : mergeK [] (es.map pairK) = kvI (es.map (·.1)) (recO es) := by
  rw [merge_kv asc (fun _ _ => rfl), rec_kv asc]
  rfl
theorem rec_zero {es : List (Int × Int)} (x : Int) (h : x ∉ es.map (·.1)) : recO es x = 0 := recO_no (decide_eq_false fun ⟨p, hp, z⟩ => h (List.mem_map.mpr ⟨p, hp, z⟩))
theorem cut_one (os : List Int) : cutV (os.map V.int) (some 1) none = (os.drop 1).map V.int := by
  cases os with
  | nil => rfl
  | cons o r =>
    rw [show (some (1 : Int)) = some ((1 : Nat) : Int) from rfl, cut_from _ (by rw [List.length_map, List.length_cons]; omega), List.map_drop]
section
variable {P : Program} {w : World} {K : PySem.W.Frag} {mg : Str → Option Value} {base : Heap}
/-! ### _law_walked -/
def spWk : Sp := fun vs H Q _ => ∃ (oa wa la : Addr) (os : List Int) (lo hi : Int) (us : List Addr) (es : List (Int × Int)), vs = [.ref oa, .ref wa, .ref la] ∧ H oa = some (.lst (os.map V.int)) ∧ H wa = some (.tup [.int lo, .int hi]) ∧ H la = some (.lst (us.map V.ref)) ∧ TupsI H us es ∧
  es.Pairwise (fun p q => p.1 < q.1) ∧ es.length ≤ 500 ∧ os.length ≤ 300 ∧ -1000 ≤ lo ∧ lo ≤ hi ∧ hi ≤ lo + 200 ∧ hi ≤ 1000 ∧
  ∀ q H', Same H H' → InfV H' q (wkRes (os.drop 1) (recO es) (hi - lo).toNat lo ⟨fun _ => 0, []⟩) → Q (.ref q) H'
def wkN : List Str := ["_law_offsets_here", "_law_window", "_law_log", "_law_recorded", "_law_expected", "_law_starts", "_law_slot", "_law_caused", "_law_there", "_law_offset"]
theorem scWk : FnScope wkN ["_law_offsets_here", "_law_window", "_law_log"] (defScope s_law_walked) := ⟨rfl, rfl, rfl, by decide +kernel, rfl, by decide +kernel, by decide +kernel⟩
theorem wk_drop {os : List Int} {rc : Int → Int} {n : Nat} {x : Int} {st : WkSt} : wkRes os rc (n + 1) x st = if rc x < st.ex x then .inl (x, st.ex x, rc x) else wkRes os rc n (x + 1) (wkStep os rc st x) := rfl
theorem ok_wk {f C : Addr} {fd : FuncData} (F : Fun K "_law_walked" "_law_walked" s_law_walked f fd) (T : Txt K mg C) (zd : mg "dict" = none) : FnOk P w K mg base CX0 1 f fd ["_law_offsets_here", "_law_window", "_law_log"] spWk := by
  refine F.ok scWk (fun vs H Q E h => ?_) (fun cdv A outer s H vs Q E hr h => ?_)
  · obtain ⟨oa, wa, la, os, lo, hi, us, es, rfl, _⟩ := h
    rfl
  · obtain ⟨oa, wa, la, os, lo, hi, us, es, rfl, ho, hw, hla, hus, asc, hel, hol, hlo, hlh, hh2, hh1, k⟩ := h
    have hu := hu_of hr
    refine ⟨_, (pss_cons (ps_set (i := 3) scWk.nd rfl (Or.inl rfl) (pe_callTy (call_dictP rfl) (by rfl) zd (by decide +kernel) (pa_cons (pv 2) pa_nil))) (pss_cons (ps_set (i := 4) scWk.nd rfl (Or.inl rfl) pe_dnewK) (pss_cons (ps_set (i := 5) scWk.nd rfl (Or.inl rfl) (pe_lst pa_nil)) (pss_cons (ps_for PassesOwn.never rfl (pi_range2 rfl T.range (pa_cons (pe_ix ix_tup (pv 1) pe_int (fun _ _ => rfl)) (pa_cons (pe_ix ix_tup (pv 1) pe_int (fun _ _ => rfl)) pa_nil))) (pg_name (i := 6) scWk.nd rfl (Or.inl rfl)) (pss_cons (ps_par (i := 7) (j := 8) (by rfl) scWk.nd rfl rfl (by decide) rfl rfl (pa_cons (pe_dget2 hu (pv 4) (pv 6) pe_int ⟨by rfl, by rfl, by rfl, by rfl⟩) (pa_cons (pe_dget2 hu (pv 3) (pv 6) pe_int ⟨by rfl, by rfl, by rfl, by rfl⟩) pa_nil)) (by rfl)) (pss_cons (ps_if (pt_cmpR op_gt (pv 7) (pv 8) (nomark _)) (pss_one (ps_ret (pe_tup (pa_cons pe_str (pa_cons (pv 6) (pa_cons (pv 7) (pa_cons (pv 8) pa_nil))))))) pss_nil) (pss_one (ps_if (pt_cmpR op_gt (pv 8) (pv 7) (nomark _)) (pss_cons (ps_expr (pe_bm PySem.F.plainAttrs_list PySem.F.slot_list_append PySem.F.type_list_append mt_append (pv 5) (pa_cons (pe_tup (pa_cons (pv 6) (pa_cons (pe_op op_sub (pv 8) (pv 7)) pa_nil))) pa_nil))) (pss_one (ps_for PassesOwn.never rfl (pi_list (pe_slice sl_list (pv 0) (po_some pe_int) po_none)) (pg_name (i := 9) scWk.nd rfl (Or.inl rfl)) (pss_one (ps_dput hu (pv 4) (pe_op op_add (pv 6) (pv 9)) (pe_op op_sub (pe_op op_add (pe_dget2 hu (pv 4) (pe_op op_add (pv 6) (pv 9)) pe_int ⟨by rfl, by rfl, by rfl, by rfl⟩) (pv 8)) (pv 7)) rfl))))) pss_nil))))) (pss_one (ps_ret (pe_tup (pa_cons pe_str (pa_cons (pv 5) pa_nil))))))))), ?_⟩
    refine ⟨_, rfl, la, us, es.map pairK, rfl, SqL.of hla, paired_of hus, fun d1 hd1 => ?_⟩
    rw [dict_log asc]
    have s1 := same_new (o := .dK (kvI (es.map (·.1)) (recO es))) hd1
    have hr1 : (upd H d1 (.dK (kvI (es.map (·.1)) (recO es)))) d1 = some (.dK (kvI (es.map (·.1)) (recO es))) := upd_same
    generalize upd H d1 (.dK (kvI (es.map (·.1)) (recO es))) = H1 at s1 hr1 ⊢
    intro d hd
    have s2 := same_new (o := .dK []) hd
    have hd2 : (upd H1 d (.dK [])) d = some (.dK (kvI [] fun _ => 0)) := upd_same
    have hr2 := s2 _ _ hr1
    have S2 := s1.trans s2
    generalize upd H1 d (.dK []) = H2 at s2 hd2 hr2 S2 ⊢
    refine ⟨(by show 0 ≤ sizeLine; decide), fun sl hsl => ?_⟩
    have s3 := same_new (o := .lst []) hsl
    have hs3 : (upd H2 sl (.lst [])) sl = some (.lst (([] : List Addr).map V.ref)) := upd_same
    have hr3 := s3 _ _ hr2
    have hd3 := s3 _ _ hd2
    have S3 := S2.trans s3
    have dN : H d = none := s1.free hd
    have slN : H sl = none := S2.free hsl
    have nsd : sl ≠ d := (ne_of_none hd2 hsl).symm
    have n1d : d1 ≠ d := ne_of_none hr1 hd
    have n1s : d1 ≠ sl := ne_of_none hr2 hsl
    generalize upd H2 sl (.lst []) = H3 at s3 hs3 hr3 hd3 S3 ⊢
    have hw3 := S3 _ _ hw
    have fin : ∀ H', (∀ c u, H3 c = some u → c ≠ d → c ≠ sl → H' c = some u) → Same H H' := fun H' B c u e => B c u (S3 _ _ e) (ne_of_none e dN) (ne_of_none e slN)
    refine ⟨_, rfl, wa, _, _, _, rfl, rfl, SqT.of hw3, atI_nat (j := 0) rfl, _, rfl, wa, _, _, _, rfl, rfl, SqT.of hw3, atI_nat (j := 1) rfl, lo, hi, rfl, ⟨by omega, by omega, by omega, by omega⟩, ?_⟩
    refine for_range (lo := lo) (n := (hi - lo).toNat) (fun i σ H' => ∃ (v6 v7 v8 v9 : Option V) (st : WkSt) (ks : List Int) (ws : List Addr), σ = [some (.ref oa), some (.ref wa), some (.ref la), some (.ref d1), some (.ref d), some (.ref sl), v6, v7, v8, v9] ∧
      (∀ c u, H3 c = some u → c ≠ d → c ≠ sl → H' c = some u) ∧ H' d = some (.dK (kvI ks st.ex)) ∧ H' sl = some (.lst (ws.map V.ref)) ∧ TupsI H' ws st.ss ∧ ks.length ≤ 300 * i ∧ (∀ x, x ∉ ks → st.ex x = 0) ∧ st.ss.length ≤ i ∧
      wkRes (os.drop 1) (recO es) (hi - lo).toNat lo ⟨fun _ => 0, []⟩ = wkRes (os.drop 1) (recO es) ((hi - lo).toNat - i) (lo + (i : Int)) st)
      ⟨none, none, none, none, ⟨fun _ => 0, []⟩, [], [], rfl, fun c u e _ _ => e, hd3, hs3, TupsI.nil, Nat.le_refl _, fun _ _ => rfl, Nat.le_refl _, by rw [Nat.sub_zero]; show _ = wkRes _ _ _ (lo + 0) _; rw [Int.add_zero]⟩ ?_ ?_
    · rintro i σ H9 hi9 ⟨v6, v7, v8, v9, st, ks, ws, rfl, B9, hd9, hs9, tw, hkl, h0, hsl9, hres⟩
      have hi200 : i < 200 := by omega
      have hr9 := B9 _ _ hr3 n1d n1s
      rw [show (hi - lo).toNat - i = ((hi - lo).toNat - (i + 1)) + 1 by omega, wk_drop] at hres
      generalize hx : lo + (i : Int) = x at hres ⊢
      refine ⟨_, rfl, d, rfl, .inl ⟨_, .inl hd9⟩, _, rfl, _, DGet.k (k := Sum.inl x) hd9, ?_⟩
      rw [kvI_get0 h0]
      refine ⟨_, rfl, d1, rfl, .inl ⟨_, .inl hr9⟩, _, rfl, _, DGet.k (k := Sum.inl x) hr9, ?_⟩
      rw [kvI_get0 (ks := es.map (·.1)) rec_zero]
      refine ⟨_, _, rfl, ?_⟩
      refine ⟨_, rfl, _, rfl, _, _, rfl, rfl, _, rfl, ?_⟩
      by_cases h1 : recO es x < st.ex x
      · rw [if_pos h1] at hres
        refine iteTb (decide_eq_true h1) ?_
        refine ⟨_, rfl, _, rfl, _, rfl, (by show 4 ≤ sizeLine; decide), fun tq htq => ?_⟩
        refine k tq _ ((fin H9 B9).trans (same_new htq)) ?_
        rw [hres]
        exact upd_same
      rw [if_neg h1] at hres
      refine iteFb (decide_eq_false h1) ?_
      refine ⟨_, rfl, _, rfl, _, _, rfl, rfl, _, rfl, ?_⟩
      by_cases h2 : st.ex x < recO es x
      case neg =>
        have est : wkStep (os.drop 1) (recO es) st x = st := if_neg h2
        rw [est] at hres
        refine iteFb (decide_eq_false h2) ⟨_, _, _, _, st, ks, ws, rfl, B9, hd9, hs9, tw, by omega, h0, by omega, ?_⟩
        rw [hres]
        congr 1
        omega
      refine iteTb (decide_eq_true h2) ?_
      have est : wkStep (os.drop 1) (recO es) st x = ⟨fun y => st.ex y + (recO es x - st.ex x) * ((os.drop 1).count (y - x) : Nat), st.ss ++ [(x, recO es x - st.ex x)]⟩ := if_pos h2
      rw [est] at hres
      -- one more start
      refine ⟨_, rfl, .inl ⟨rfl, _, SqL.of hs9⟩, _, rfl, _, rfl, _, rfl, _, _, rfl, rfl, (by show 2 ≤ sizeLine; decide), fun t9 ht9 => ?_⟩
      have s10 := same_new (o := .tup [V.int x, V.int (recO es x - st.ex x)]) ht9
      have nst : sl ≠ t9 := ne_of_none hs9 ht9
      have ndt : d ≠ t9 := ne_of_none hd9 ht9
      refine ⟨sl, _, _, rfl, rfl, s10 _ _ hs9, by rw [List.length_map, tw.1]; exact small1000 (by omega), ?_⟩
      have B11 : ∀ c u, H3 c = some u → c ≠ d → c ≠ sl → (upd (upd H9 t9 (.tup [V.int x, V.int (recO es x - st.ex x)])) sl (.lst (ws.map V.ref ++ [V.ref t9]))) c = some u := fun c u e1 n1 n2 => by
        rw [upd_ne n2]
        exact s10 _ _ (B9 c u e1 n1 n2)
      have hd11 : (upd (upd H9 t9 (.tup [V.int x, V.int (recO es x - st.ex x)])) sl (.lst (ws.map V.ref ++ [V.ref t9]))) d = some (.dK (kvI ks st.ex)) := by
        rw [upd_ne nsd.symm]
        exact s10 _ _ hd9
      have hs11 : (upd (upd H9 t9 (.tup [V.int x, V.int (recO es x - st.ex x)])) sl (.lst (ws.map V.ref ++ [V.ref t9]))) sl = some (.lst ((ws ++ [t9]).map V.ref)) := by
        rw [upd_same, List.map_append]
        rfl
      have tw11 : TupsI (upd (upd H9 t9 (.tup [V.int x, V.int (recO es x - st.ex x)])) sl (.lst (ws.map V.ref ++ [V.ref t9]))) (ws ++ [t9]) (st.ss ++ [(x, recO es x - st.ex x)]) := by
        refine TupsI.snoc (tw.kx fun r xs h => ?_) ?_
        · rw [upd_ne (ne_of h hs9 (by intro z; cases z))]
          exact s10 _ _ h
        · rw [upd_ne nst.symm, upd_same]
      generalize (upd (upd H9 t9 (.tup [V.int x, V.int (recO es x - st.ex x)])) sl (.lst (ws.map V.ref ++ [V.ref t9]))) = H11 at B11 hd11 hs11 tw11
      -- the later offsets
      have hoa : oa ≠ d ∧ oa ≠ sl := ⟨ne_of_none ho dN, ne_of_none ho slN⟩
      have ho11 := B11 _ _ (S3 _ _ ho) hoa.1 hoa.2
      refine ⟨_, rfl, _, rfl, oa, _, rfl, SqL.of ho11, fun l2 hl2 => ?_⟩
      rw [show cutV (os.map V.int) (some 1) none = ((os.drop 1).map V.int) from cut_one os]
      have s12 := same_new (o := .lst ((os.drop 1).map V.int)) hl2
      have h12 : (upd H11 l2 (.lst ((os.drop 1).map V.int))) l2 = some (.lst ((os.drop 1).map V.int)) := upd_same
      have hd12 := s12 _ _ hd11
      have hs12 := s12 _ _ hs11
      have tw12 := tw11.same s12
      have n2d : l2 ≠ d := (ne_of_none hd11 hl2).symm
      have B12 : ∀ c u, H3 c = some u → c ≠ d → c ≠ sl → (upd H11 l2 (.lst ((os.drop 1).map V.int))) c = some u := fun c u e1 n1 n2 => s12 _ _ (B11 c u e1 n1 n2)
      generalize upd H11 l2 (.lst ((os.drop 1).map V.int)) = H12 at h12 hd12 hs12 tw12 B12 ⊢
      generalize hk : recO es x - st.ex x = kk at hres tw12 ⊢
      have hdl : (os.drop 1).length ≤ 300 := by rw [List.length_drop]; omega
      generalize os.drop 1 = os1 at h12 hres hdl ⊢
      refine ⟨l2, rfl, ⟨_, SqL.of h12⟩, for_list (a := l2) (xs := os1.map V.int) (fun j σ H' => ∃ (v9 : Option V) (ks2 : List Int), σ = [some (.ref oa), some (.ref wa), some (.ref la), some (.ref d1), some (.ref d), some (.ref sl), some (.int x), some (.int (st.ex x)), some (.int (recO es x)), v9] ∧
        (∀ c u, H12 c = some u → c ≠ d → H' c = some u) ∧ H' d = some (.dK (kvI ks2 fun y => st.ex y + kk * ((os1.take j).count (y - x) : Nat))) ∧ (∀ y, y ∉ ks2 → st.ex y + kk * ((os1.take j).count (y - x) : Nat) = 0) ∧ ks2.length ≤ 300 * i + j)
        ⟨v9, ks, rfl, fun c u e _ => e, by rw [hd12]; simp, fun y hy => by rw [h0 y hy]; simp, hkl⟩ (fun j σ H' _ ⟨_, _, _, B, _⟩ => SqL.of (B _ _ h12 n2d)) ?_ ?_⟩
      · rintro j y σ H13 hy ⟨v9', ks2, rfl, B13, hd13, h03, hkl3⟩
        obtain ⟨o, ho', rfl⟩ := map_of hy
        have hj : j < 300 := Nat.lt_of_lt_of_le (List.getElem?_eq_some_iff.mp ho').1 hdl
        refine ⟨_, rfl, d, rfl, .inl ⟨_, .inl hd13⟩, _, rfl, _, rfl, _, _, rfl, rfl, _, DGet.k (k := Sum.inl (x + o)) hd13, ?_⟩
        rw [kvI_get0 h03]
        refine ⟨_, rfl, _, _, rfl, rfl, _, rfl, _, _, rfl, rfl, _, rfl, _, rfl, _, rfl, _, _, rfl, rfl, d, _, rfl, DPut.k (k := Sum.inl (x + o)) hd13 (by rw [kvI_len]; exact small_line (by omega)), ?_⟩
        have ef : ∀ y, (if y = x + o then st.ex (x + o) + kk * ((os1.take j).count (x + o - x) : Nat) + recO es x - st.ex x else st.ex y + kk * ((os1.take j).count (y - x) : Nat)) = st.ex y + kk * ((os1.take (j + 1)).count (y - x) : Nat) := fun y => by
          rw [List.take_add_one, ho', List.count_append]
          by_cases z : y = x + o
          · rw [if_pos z, z, show x + o - x = o by omega]
            have : ([o] : List Int).count o = 1 := by simp
            show _ = st.ex (x + o) + kk * ((((os1.take j).count o + ([o] : List Int).count o : Nat)) : Int)
            rw [this, ← hk, Int.natCast_add, Int.mul_add]
            show _ = _ + (_ + _ * 1)
            omega
          · rw [if_neg z]
            have : ([o] : List Int).count (y - x) = 0 := List.count_eq_zero.mpr fun h => z (by have := List.mem_singleton.mp h; omega)
            show _ = st.ex y + kk * ((((os1.take j).count (y - x) + ([o] : List Int).count (y - x) : Nat)) : Int)
            rw [this, Nat.add_zero]
        refine ⟨_, if x + o ∈ ks2 then ks2 else ks2 ++ [x + o], rfl, fun c u e n => by rw [upd_ne n]; exact B13 c u e n, ?_, fun y hy => ?_, ?_⟩
        · rw [upd_same, kvI_put]
          congr 2
          congr 1
          funext y
          exact ef y
        · rw [← ef]
          have hne : y ≠ x + o := fun z => hy (by
            split
            · rw [z]; assumption
            · rw [z]; exact List.mem_append_right _ (List.mem_singleton.mpr rfl))
          rw [if_neg hne]
          refine h03 y fun z => hy ?_
          split
          · exact z
          · exact List.mem_append_left _ z
        · split
          · omega
          · rw [List.length_append]
            show _ + 1 ≤ _
            omega
      · rintro σ H13 ⟨v9', ks2, rfl, B13, hd13, h03, hkl3⟩
        rw [List.length_map, List.take_length] at hd13 h03
        rw [List.length_map] at hkl3
        refine ⟨_, _, _, _, ⟨fun y => st.ex y + kk * (os1.count (y - x) : Nat), st.ss ++ [(x, kk)]⟩, ks2, ws ++ [t9], rfl, fun c u e n1 n2 => B13 _ _ (B12 c u e n1 n2) n1, hd13, B13 _ _ hs12 nsd, tw12.kx fun r xs h => B13 _ _ h (ne_of h hd12 (by intro z; cases z)), by omega, h03, ?_, ?_⟩
        · rw [List.length_append]
          show _ + 1 ≤ _
          omega
        · rw [hres]
          congr 1
          omega
    · rintro σ H9 ⟨v6, v7, v8, v9, st, ks, ws, rfl, B9, hd9, hs9, tw, hkl, h0, hsl9, hres⟩
      rw [Nat.sub_self] at hres
      refine ⟨_, rfl, (by show 2 ≤ sizeLine; decide), fun tq htq => ?_⟩
      have s10 := same_new (o := .tup [V.str "starts", .ref sl]) htq
      refine k tq _ ((fin H9 B9).trans s10) ?_
      rw [hres]
      exact ⟨sl, ws, upd_same, s10 _ _ hs9, tw.kx fun r xs h => s10 _ _ h⟩
end
end RS
namespace RS
open PySem L2
/-! ### what the law's turn keeps -/
structure LawAt (C : Addr) (H : Hp) (a L g p g2 t o : Addr) (cs gs : List Int) (tl : Tl) : Prop where
  R : RuleAt C H p g2 t o gs tl
  hL : H L = some (.lst (cs.map V.int))
  hg : H g = some (.lst (gs.map V.int))
  nL : L ≠ a
  ng : g ≠ a
  np : p ≠ a
  n2 : g2 ≠ a
  nt : t ≠ a
  no : o ≠ a
theorem RuleAt.kx {C a : Addr} {H H' : Hp} {p g t o : Addr} {gs : List Int} {tl : Tl} (R : RuleAt C H p g t o gs tl) (h : Kx a H H') (np : p ≠ a) (ng : g ≠ a) (nt : t ≠ a) (no : o ≠ a) : RuleAt C H' p g t o gs tl :=
  ⟨let ⟨dx, e⟩ := R.ob; ⟨dx, h _ _ np e⟩, h _ _ ng R.hg, h _ _ nt R.ht, h _ _ no R.ho, R.okG, R.okT⟩
theorem LawAt.kx {C : Addr} {H H' : Hp} {a L g p g2 t o : Addr} {cs gs : List Int} {tl : Tl} (B : LawAt C H a L g p g2 t o cs gs tl) (h : Kx a H H') : LawAt C H' a L g p g2 t o cs gs tl :=
  ⟨B.R.kx h B.np B.n2 B.nt B.no, h _ _ B.nL B.hL, h _ _ B.ng B.hg, B.nL, B.ng, B.np, B.n2, B.nt, B.no⟩
theorem LawAt.same {C : Addr} {H H' : Hp} {a L g p g2 t o : Addr} {cs gs : List Int} {tl : Tl} (B : LawAt C H a L g p g2 t o cs gs tl) (h : Same H H') : LawAt C H' a L g p g2 t o cs gs tl := B.kx (Kx.of h)
theorem made_same {H : Hp} {p dx : Addr} {o1 o2 : HO} (hp : H p = none) (hd : H dx = none) : Same H (upd (upd H dx o1) p o2) := fun b u e => by
  rw [upd_ne (ne_of_none e hp), upd_ne (ne_of_none e hd)]
  exact e
/-- the law's promise: a list of at most 63 ints is handed in, True comes out -/
def spLaw (K : PySem.W.Frag) : Sp := fun vs H Q _ => ∃ (a : Addr) (ns : List Int), vs = [.ref a] ∧ SqL K H a (ns.map V.int) ∧ ns.length ≤ 63 ∧ ∀ H', Q (.bl true) H'
/-- the cells: the first number (or 0), then some more -/
def cellsOf (n : Nat) (ns : List Int) : List Int := ns.getD 0 0 :: ((ns.drop 1).take (n - 1))
end RS
namespace RS
open PySem L2
/-- a rule none of whose parts is the source -/
structure RK (C : Addr) (H : Hp) (a p g t o : Addr) (gs : List Int) (tl : Tl) : Prop where
  R : RuleAt C H p g t o gs tl
  np : p ≠ a
  ng : g ≠ a
  nt : t ≠ a
  no : o ≠ a
theorem RK.kx {C : Addr} {H H' : Hp} {a p g t o : Addr} {gs : List Int} {tl : Tl} (B : RK C H a p g t o gs tl) (h : Kx a H H') : RK C H' a p g t o gs tl := ⟨B.R.kx h B.np B.ng B.nt B.no, B.np, B.ng, B.nt, B.no⟩
theorem RK.same {C : Addr} {H H' : Hp} {a p g t o : Addr} {gs : List Int} {tl : Tl} (B : RK C H a p g t o gs tl) (h : Same H H') : RK C H' a p g t o gs tl := B.kx (Kx.of h)
end RS
/-! ### a list against the empty list; len in a comprehension's block -/
namespace L2
open PySem PySem.Spec PyProof.Rows
section
variable {X : Cx}
/-- a list, held against the empty list -/
def rNilB (K : PySem.W.Frag) (f : Bool → Bool) : R2 := fun x y H Q => ∃ a b xs, x = .ref a ∧ y = .ref b ∧ SqL K H a xs ∧ SqL K H b [] ∧ Q (.bl (f xs.isEmpty)) H
theorem op_eqNil (hu : X.A.units + 64 < cLine) : OpR X (compareOp .Eq) (rNilB X.K id) := by
  intro pins s σ H x y v u Q I rx ry h
  obtain ⟨a, b, xs, rfl, rfl, ha, hb, q⟩ := h
  cases xs with
  | nil => exact op_eqD hu pins s σ H _ _ v u Q I rx ry ⟨.list [], .list [], .lst ha .nil, .lst hb .nil, rfl, rfl, q⟩
  | cons z r =>
    cases rx
    cases ry
    obtain ⟨its, r1, h1, _⟩ := I.list ha
    obtain ⟨its2, r2, h2, _⟩ := I.list hb
    cases r2
    have e1 := r1.length
    refine SeqAt.eq_list_lengthsAt h1.isList h2.isList ?_ (by omega) ⟨.bl _, H, I, rfl, q⟩
    rw [List.size_toArray, ← e1]
    rfl
theorem op_neNil (hu : X.A.units + 64 < cLine) : OpR X (compareOp .NotEq) (rNilB X.K not) := by
  intro pins s σ H x y v u Q I rx ry h
  obtain ⟨a, b, xs, rfl, rfl, ha, hb, q⟩ := h
  cases xs with
  | nil => exact op_neD hu pins s σ H _ _ v u Q I rx ry ⟨.list [], .list [], .lst ha .nil, .lst hb .nil, rfl, rfl, q⟩
  | cons z r =>
    cases rx
    cases ry
    obtain ⟨its, r1, h1, _⟩ := I.list ha
    obtain ⟨its2, r2, h2, _⟩ := I.list hb
    cases r2
    have e1 := r1.length
    refine SeqAt.RcNeAt.lists_lengths h1.isList h2.isList ?_ (by omega) X.prog X.w _ _ ⟨.bl _, H, I, rfl, q⟩
    rw [List.size_toArray, ← e1]
    rfl
def rLenK (K : PySem.W.Frag) : List V → Hp → VK → Prop := fun xs H Q => ∃ p ys, xs = [V.ref p] ∧ (SqL K H p ys ∨ SqT K H p ys) ∧ Q (.int (ys.length : Int)) H
theorem pe_lenK {e : Expr} {te : TE} {p pos : Pos} (K : PySem.W.Frag) (hK : X.K = K) (hg : Gl X "len") (hm : X.mg "len" = none) (ha : PE X e te) (hs : starEach [e] X.env = (false, eval e X.env) :: starEach [] X.env := by rfl) : PE X (.Call (.Name "len" p) [e] [] pos) (tCB (rLenK K) (tCons te tNil)) := by
  subst hK
  exact pe_callB (r := rLenK X.K) call_len_seq hg hm (by decide +kernel) (pa_cons ha pa_nil hs) (he := hs)
end
end L2
namespace RS
open PySem L2
theorem inV_int (v : Int) (os : List Int) : inV (.int v) (os.map V.int) = decide (v ∈ os) := by
  rw [Bool.eq_iff_iff, decide_eq_true_iff]
  unfold inV
  rw [List.any_eq_true]
  constructor
  · rintro ⟨y, hy, e⟩
    obtain ⟨z, hz, rfl⟩ := List.mem_map.mp hy
    have e : (z == v) = true := e
    rw [← eq_of_beq e]
    exact hz
  · intro h
    exact ⟨.int v, List.mem_map.mpr ⟨v, h, rfl⟩, (beq_self_eq_true v : (v == v) = true)⟩
theorem ints_flat (ns : List Int) : (ns.map V.int).all flatV = true := by
  rw [List.all_eq_true]
  intro x hx
  obtain ⟨n, _, rfl⟩ := List.mem_map.mp hx
  rfl
theorem pe_bmK {X : Cx} {K : PySem.W.Frag} {T : String} {e : Expr} {r : V → List V → Hp → VK → Prop} {to : L2.TE} {t : L2.TA} (hK : X.K = K) (h : PE X e (tBM X.K T r to t)) : PE X e (tBM K T r to t) := hK ▸ h
end RS
namespace RS
open PySem L2
/-- what infer_starts returns, as data -/
def infD : Sum (Int × Int × Int) (List (Int × Int)) → PyData
  | .inl (a, b, c) => .tuple [.str "clash", .int a, .int b, .int c]
  | .inr ss => .tuple [.str "starts", .list (winD ss)]
theorem infD_dp {K : PySem.W.Frag} {H : Hp} {q : Addr} : ∀ {r : Sum (Int × Int × Int) (List (Int × Int))}, InfV H q r → Dp K H (.ref q) (infD r)
  | .inl (a, b, c), h => .tup (SqT.of (show H q = some (.tup [.str "clash", .int a, .int b, .int c]) from h)) (.cons (.str _) (.cons (.int _) (.cons (.int _) (.cons (.int _) .nil))))
  | .inr ss, ⟨l, ws, h1, h2, h3⟩ => .tup (SqT.of h1) (.cons (.str _) (.cons (.lst (SqL.of h2) (tupsI_dp h3)) .nil))
theorem infD_shaped : ∀ r : Sum (Int × Int × Int) (List (Int × Int)), SeqAt.shaped (infD r) = true
  | .inl (a, b, c) => by
    have e : PyData.canLay0 (.str "clash") = true := by decide +kernel
    show ((PyData.canLay0 (.str "clash") && (true && (true && (true && true)))) && decide (PyData.depth (infD (.inl (a, b, c))) ≤ 64)) = true
    rw [e]
    simp [infD, PyData.depth, PyData.depthAll]
  | .inr ss => by
    have e : PyData.canLay0 (.str "starts") = true := by decide +kernel
    have h1 := win_can ss
    have h2 := win_depth ss
    show ((PyData.canLay0 (.str "starts") && (PyData.canLayAll0 (winD ss) && true)) && decide (PyData.depth (infD (.inr ss)) ≤ 64)) = true
    rw [e, h1]
    simp [infD, PyData.depth, PyData.depthAll]
    omega
theorem infD_eqv : ∀ r r' : Sum (Int × Int × Int) (List (Int × Int)), PyData.eqv (infD r) (infD r') = decide (r = r')
  | .inl (a, b, c), .inl (x, y, z) => by
    show (true && ((a == x) && ((b == y) && ((c == z) && true)))) = _
    rw [Bool.eq_iff_iff]
    simp
  | .inl (a, b, c), .inr ss => by
    rw [decide_eq_false (fun e => nomatch e)]
    rfl
  | .inr ss, .inl (a, b, c) => by
    rw [decide_eq_false (fun e => nomatch e)]
    rfl
  | .inr ss, .inr ts => by
    show (true && (PyData.eqv (.list (winD ss)) (.list (winD ts)) && true)) = _
    rw [win_eqvL, Bool.true_and, Bool.and_true]
    simp
theorem InfV.same {H H' : Hp} {q : Addr} (S : Same H H') : ∀ {r : Sum (Int × Int × Int) (List (Int × Int))}, InfV H q r → InfV H' q r
  | .inl (_, _, _), h => S _ _ h
  | .inr _, ⟨l, ws, h1, h2, h3⟩ => ⟨l, ws, S _ _ h1, S _ _ h2, h3.same S⟩
end RS
namespace RS
open PySem L2
/-! ### k55: the logs that the law asks for -/
section
variable {gs : List Int} {tl : Tl} {lo hi : Int} {bs : List Int} {f : Int → Nat} {es : List (Int × Int)}
  (okG : GapsOk gs) (okT : TlOk gs.length tl) (hb : ∀ b ∈ bs, lo ≤ b ∧ b < hi) (hN : ∀ b ∈ bs, CntB gs tl (hi - b) (f b))
  (lg : LogOf (bs.flatMap fun b => (slotR gs tl b 0 (f b)).map fun s => (s, (1 : Int))) es) (h5 : es.length ≤ 500)
include okG okT hb hN lg h5
theorem log_ok : LogOk es lo hi := by
  refine ⟨lg.asc, fun e he => ?_, h5⟩
  obtain ⟨b, hbm, hx⟩ := (in_mem okG okT hb hN lg e.1).mp ⟨e, he, rfl⟩
  have h1 := in_bd okG okT hb hN hbm hx
  have h2 := hb b hbm
  have h3 := in_one okG okT hb hN lg he
  omega
theorem cut_ok {h : Int} : LogOk (es.filter fun e => decide (e.1 < h)) lo h := by
  have ok := log_ok okG okT hb hN lg h5
  refine ⟨ok.asc.sublist List.filter_sublist, fun e he => ?_, Nat.le_trans (List.length_filter_le ..) h5⟩
  obtain ⟨h1, h2⟩ := List.mem_filter.mp he
  have h3 := ok.bd e h1
  have h4 := of_decide_eq_true h2
  omega
end
end RS
/-! ### sorted(d) of a dict whose keys are whole numbers -/
namespace L2
open PySem PySem.Spec PyProof.Rows PySem.W
section
variable {P : Program} {w : World} {A : Around} {E : Value → Shared → Prop} {s : Shared}
theorem sorted_dictI {d : Addr} {vs : List (Key × Value)} {ep : Nat} {ks : List Int} {Q : Value → Shared → Prop} (lo : (d == sysModules) = false) (hat : s.heap.DictAt (mixKind P w) d vs ep) (calm : A.handled = none) (few : vs.length ≤ sizeLine) (hk : vs.map (·.1) = ks.map Sum.inl)
    (fin : ∀ (s2 : Shared) (p : Addr) (its : Array Value) (c : Nat) (ns : List Int), (∀ b o, s.heap.get? b = some o → s2.heap.get? b = some o) → s2.gens = s.gens → s2.os = s.os → s2.drawn = s.drawn → s.heap.get? p = none → (∃ h1 : Heap, (∀ b o, s.heap.get? b = some o → h1.get? b = some o) ∧ h1.objs.size ≤ p) → s2.heap.get? p = some (seqObj "list" its c) →
      IntsAre its.toList ns → ns.Perm ks → ns.Pairwise (· ≤ ·) → Q (.ref p) s2) : wpAny (model P w) A (call (.builtin "sorted") [.ref d]) Q E s := by
  refine Calls.call_function_entry kind_sorted plain_sorted entry_sorted (args_sorted1 _) ?_
  unfold Builtin.«sorted»
  refine wpAny_bind (m := checkCount "sorted" 1 1 _) (wpAny_pure (wpAny_bind (kdu_collect (kdl_dict (knd := mixKind P w) (kvs := vs) (ep := ep) lo) (A := A.in1) calm hat few fun h1 tk acc keep hacc => ?_)))
  have hln : ks.length = vs.length := by
    have := congrArg List.length hk
    rw [List.length_map, List.length_map] at this
    exact this.symm
  have numb : IntsAre acc.toList ks := Vals.ints (vals_of_at (by have e := hacc.1; simp only [List.length_map, Array.length_toList]; omega) fun j x u h1 h2 => by
    obtain ⟨k, y, hky, hi⟩ := hacc.2 j u (by rw [← Array.getElem?_toList]; exact h2)
    have e1 : (vs.map (·.1))[j]? = some k := by rw [List.getElem?_map, hky]; rfl
    rw [hk, List.getElem?_map] at e1
    rw [List.getElem?_map] at h1
    cases e : ks[j]? with
    | none => rw [e] at e1; cases e1
    | some i =>
      rw [e] at e1 h1
      cases e1
      cases h1
      have hi : keyIs (Sum.inl i) u = true := hi
      exact keyIs_rel (k := Sum.inl i) hi)
  have many : acc.toList.length = ks.length := by rw [Array.length_toList, hacc.1, hln]
  have line : acc.toList.length ≤ sizeLine := by rw [many, hln]; exact few
  refine wpAny_bind (wpAny_newList ?_ line)
  have made : (h1.push (seqObj "list" acc.toList.toArray 0)).get? h1.objs.size = some (seqObj "list" acc.toList.toArray 0) := Heap.get?_push_size _ rfl
  refine wpAny_bind (wpAny_holding (wpAny_call_entry slot_list_sort ⟨_, made, rfl⟩ entry_list_sort (SrtO.list_sort_ord SrtO.swo_int made line (fun two => SrtO.ints_sortable numb two) fun out so st => ⟨_, rfl, ?_⟩) (args_list_sort _)))
  obtain ⟨are, pout, asc⟩ := SrtO.ints_out numb so st
  obtain ⟨c, atC⟩ := sortedHeap_at (vs := acc.toList) (out := out.toArray) made
  refine wpAny_pure ⟨_, rfl, fin _ h1.objs.size out.toArray c _ (fun b u eb => ?_) rfl rfl rfl ?_ ⟨h1, keep, Nat.le_refl _⟩ atC (by simpa using are) pout asc⟩
  · have kb := keep b u eb
    have low2 := Heap.lt_size kb
    show (sortedHeap (h1.push (seqObj "list" acc.toList.toArray 0)) h1.objs.size acc.toList out.toArray).get? b = some u
    rw [sortedHeap_old (Nat.ne_of_lt low2) (by rw [size_push']; exact Nat.lt_of_lt_of_le low2 (Nat.le_succ _))]
    exact Heap.get?_push_of_some _ kb
  · cases e : s.heap.get? h1.objs.size with
    | none => rfl
    | some o => exact absurd (Heap.lt_size (keep _ _ e)) (Nat.lt_irrefl _)
end
section
variable {X : Cx}
def rSortD : List V → Hp → VK → Prop := fun xs H Q => ∃ (d : Addr) (kvs : List (Key × V)) (ks : List Int), xs = [V.ref d] ∧ H d = some (.dK kvs) ∧ kvs.map (·.1) = ks.map Sum.inl ∧ ∀ (ns : List Int) (p : Addr), ns.Perm ks → ns.Pairwise (· ≤ ·) → H p = none → Q (.ref p) (upd H p (.lst (ns.map V.int)))
theorem cr_sortD (hc : X.calm = true) : CallR X (.builtin "sorted") rSortD := by
  intro pins s σ H xs us Q I r h
  obtain ⟨d, kvs, ks, rfl, hd, hk, q⟩ := h
  rw [Vals.ref1 r]
  obtain ⟨z, lo, vs, rk, hdd⟩ := (show ObjOk X.prog X.w H s.heap d (.dK kvs) from I.hok d _ hd)
  obtain ⟨ep, hat⟩ := hdd.dictAt
  have hl : kvs.length = vs.length := Paired.length rk
  refine sorted_dictI (ks := ks) lo hat (I.ok.hd hc) (by rw [← hl]; exact z) (by rw [← KV.keys rk, hk]) fun s2 p its c ns keep g o dr hp hp1 hg hi hpm has => ?_
  have line : (ns.map V.int).length ≤ sizeLine := by
    have e := congrArg List.length hk
    rw [List.length_map, List.length_map] at e
    rw [List.length_map, hpm.length_eq, ← e]
    exact z
  obtain ⟨h1, k1, l1⟩ := hp1
  have hn : H p = none := (I.hok.kept k1).fresh l1
  have J : Inv X pins σ (upd H p (.lst (ns.map V.int))) { s with heap := s2.heap, gens := s2.gens, drawn := s2.drawn, toks := s2.toks } :=
    I.call (ch := []) (Un.laidN keep hp hn) (I.hok.laidN keep hn ⟨line, its.toList, c, vals_of_ints hi, hg⟩) (by rw [g]; exact I.bare) (fun _ z => nomatch z)
  have e : s2 = { s with heap := s2.heap, gens := s2.gens, drawn := s2.drawn, toks := s2.toks } := by
    cases s2
    cases s
    cases o
    rfl
  rw [e]
  exact ⟨.ref p, _, J, rfl, q ns p hpm has hn⟩
end
end L2
namespace RS
open PySem L2
/-! ### _law_changed -/
theorem keys_nd {es : List (Int × Int)} (asc : es.Pairwise fun p q => p.1 < q.1) : (es.map (·.1)).Nodup := List.pairwise_map.mpr (asc.imp fun {a b} h e => by omega)
theorem chg_ok {ns : List Int} {cf : Int → Int} {lo hi : Int} (asc : ns.Pairwise (· < ·)) (hb : ∀ x ∈ ns, lo ≤ x ∧ x < hi) (h5 : hi - lo ≤ 500) : LogOk ((ns.map fun x => (x, cf x)).filter fun p => decide (0 < p.2)) lo hi := by
  have asc2 : (ns.map fun x => (x, cf x)).Pairwise (fun p q => p.1 < q.1) := List.pairwise_map.mpr asc
  refine ⟨asc2.sublist List.filter_sublist, fun p hp => ?_, ?_⟩
  · obtain ⟨h1, h2⟩ := List.mem_filter.mp hp
    obtain ⟨x, hx, rfl⟩ := List.mem_map.mp h1
    have h3 := hb x hx
    have h4 : 0 < cf x := of_decide_eq_true h2
    show lo ≤ x ∧ x < hi ∧ 1 ≤ cf x
    omega
  · refine Nat.le_trans (List.length_filter_le ..) ?_
    rw [List.length_map]
    have := asc_len asc hb
    omega
section
variable {P : Program} {w : World} {K : PySem.W.Frag} {mg : Str → Option Value} {base : Heap}
def spCh : Sp := fun vs H Q _ => ∃ (a wa la : Addr) (us : List Addr) (es : List (Int × Int)) (lo hi : Int) (b : Nat), vs = [.ref a, .ref wa, .ref la] ∧ Src H a b ∧ b ≤ 40000 ∧ la ≠ a ∧ H wa = some (.tup [.int lo, .int hi]) ∧ H la = some (.lst (us.map V.ref)) ∧ TupsI H us es ∧ LogOk es lo hi ∧ lo < hi ∧ hi - lo ≤ 200 ∧
  ∀ q ws es' H', q ≠ a → H' q = some (.lst (ws.map V.ref)) → TupsI H' ws es' → LogOk es' lo hi → Kx a H H' → Src H' a (b + 4) → Q (.ref q) H'
def chN : List Str := ["_law_source", "_law_window", "_law_log", "_law_counts", "_law_slot", "_law_one"]
theorem scCh : FnScope chN ["_law_source", "_law_window", "_law_log"] (defScope s_law_changed) := ⟨rfl, rfl, rfl, by decide +kernel, rfl, by decide +kernel, by decide +kernel⟩
theorem ok_ch {f C fN fO : Addr} {fd fdN fdO : FuncData} (F : Fun K "_law_changed" "_law_changed" s_law_changed f fd) (T : Txt K mg C) (zd : mg "dict" = none)
    (GN : FnOk P w K mg base CX0 1 fN fdN ["_law_source", "_law_bound"] spNext) (bN : Binds K fdN ["_law_source", "_law_bound"] []) (mN : mg "_law_draw" = some (.ref fN)) (kN : PySem.W.keepIn K (.ref fN) = true)
    (GO : FnOk P w K mg base CX0 2 fO fdO ["_law_source", "_law_options"] spOne) (bO : Binds K fdO ["_law_source", "_law_options"] []) (mO : mg "_law_choice" = some (.ref fO)) (kO : PySem.W.keepIn K (.ref fO) = true) : FnOk P w K mg base CX0 3 f fd ["_law_source", "_law_window", "_law_log"] spCh := by
  refine F.ok scCh (fun vs H Q E h => ?_) (fun cdv A outer s H vs Q E hr h => ?_)
  · obtain ⟨a, wa, la, us, es, lo, hi, b, rfl, _⟩ := h
    rfl
  · obtain ⟨a, wa, la, us, es, lo, hi, b, rfl, S, hb, nla, hw, hla, hus, ok, hlh, hh2, k⟩ := h
    have hu := hu_of hr
    have hr1 := hr.mono (show 1 ≤ 2 by decide)
    have hel := ok.l500
    have hul : us.length = es.length := hus.1
    refine ⟨_, (pss_cons (ps_set (i := 3) scCh.nd rfl (Or.inr rfl) (pe_callTy (call_dictP rfl) (by rfl) zd (by decide +kernel) (pa_cons (pv 2) pa_nil))) (pss_cons (ps_set (i := 4) scCh.nd rfl (Or.inl rfl) (pe_op op_add (pe_ix ix_tup (pv 1) pe_int (fun _ _ => rfl)) (pe_call GN hr1 rfl mN kN bN .nil pass0 (pa_cons (pv 0) (pa_cons (pe_op op_sub (pe_ix ix_tup (pv 1) pe_int (fun _ _ => rfl)) (pe_ix ix_tup (pv 1) pe_int (fun _ _ => rfl))) pa_nil))))) (Evl.pss_cut (ps_if (PW.pt (pw_and (pt_cmpR (op_neNil hr.units) (pv 2) (pe_lst pa_nil) (nomark _)) (pw_and1 (pt_cmpR op_gt (pe_call GN hr1 rfl mN kN bN .nil pass0 (pa_cons (pv 0) (pa_cons pe_int pa_nil))) pe_int (nomark _))))) (pss_one (ps_set (i := 4) scCh.nd rfl (Or.inl rfl) (pe_ix ix_tup (pe_call GO hr rfl mO kO bO .nil pass0 (pa_cons (pv 0) (pa_cons (pv 2) pa_nil))) pe_int (fun _ _ => rfl)))) pss_nil) (pss_cons (ps_dput hu (pv 3) (pv 4) (pe_op op_add (pe_dget2 hu (pv 3) (pv 4) pe_int ⟨by rfl, by rfl, by rfl, by rfl⟩) (pe_call GO hr rfl mO kO bO .nil pass0 (pa_cons (pv 0) (pa_cons (pe_lst (pa_cons pe_int (pa_cons (pe_un un_neg pe_int) (pa_cons pe_int (pa_cons (pe_un un_neg pe_int) (pa_cons (pe_un un_neg pe_int) pa_nil)))))) pa_nil)))) rfl) (pss_one (ps_ret (pe_lc (own := [("_law_one", 5)]) (g := gName 5) rfl scCh.nd (pi_list (pe_callB (cr_sortD rfl) (by rfl) T.sorted (by decide +kernel) (pa_cons (pv 3) pa_nil))) (blkOk_by (own := [("_law_one", 5)]) (N := chN) (sc := (defScope s_law_changed)) (by decide +kernel)) (fun _ _ _ _ _ => (pg_name (i := 5) scCh.nd rfl (Or.inl rfl))) (fun _ _ _ _ _ => pts_one (pt_cmpR op_gt (pe_dget hu (pv 3) (pv 5) (fun _ _ => rfl)) pe_int (nomark _))) (fun _ _ _ _ _ => (pe_tup (pa_cons (pv 5) (pa_cons (pe_dget hu (pv 3) (pv 5) (fun _ _ => rfl)) pa_nil))))))))))), ?_⟩
    refine ⟨_, rfl, la, us, es.map pairK, rfl, SqL.of hla, paired_of hus, fun d hd => ?_⟩
    rw [dict_log ok.asc]
    have s1 := same_new (o := .dK (kvI (es.map (·.1)) (recO es))) hd
    have hd1 : (upd H d (.dK (kvI (es.map (·.1)) (recO es)))) d = some (.dK (kvI (es.map (·.1)) (recO es))) := upd_same
    have nda : d ≠ a := (S.new hd).symm
    generalize upd H d (.dK (kvI (es.map (·.1)) (recO es))) = H1 at s1 hd1 ⊢
    have R1 := S.mono s1
    have hw1 := s1 _ _ hw
    have hla1 := s1 _ _ hla
    have nwa : wa ≠ a := R1.nt hw1
    -- a slot
    refine ⟨_, rfl, wa, _, _, _, rfl, rfl, SqT.of hw1, atI_nat (j := 0) rfl, _, rfl, _, rfl, wa, _, _, _, rfl, rfl, SqT.of hw1, atI_nat (j := 1) rfl, _, rfl, wa, _, _, _, rfl, rfl, SqT.of hw1, atI_nat (j := 0) rfl, _, _, rfl, rfl, a, _, b, rfl, R1, by omega, by omega, by omega, fun r2 H2 r20 r21 kx2 R2 => ?_⟩
    refine ⟨_, _, rfl, rfl, ?_⟩
    have hd2 := kx2 _ _ nda hd1
    have hla2 := kx2 _ _ nla hla1
    have tu2 := (hus.same s1).kxs R1 kx2
    have KA : Kx a H H2 := (Kx.of s1).trans kx2
    clear R1 hw1 hla1 hd1 kx2 s1 S
    refine ⟨fun σ H' => ∃ x : Int, σ = [some (.ref a), some (.ref wa), some (.ref la), some (.ref d), some (.int x), none] ∧ lo ≤ x ∧ x < hi ∧ H' d = some (.dK (kvI (es.map (·.1)) (recO es))) ∧ Kx a H H' ∧ Src H' a (b + 3), ?_, ?_⟩
    · refine ⟨_, rfl, (by show 0 ≤ sizeLine; decide), fun e0 he0 => ?_⟩
      have S3 := same_new (o := .lst []) he0
      refine ⟨la, e0, us.map V.ref, rfl, rfl, SqL.of (S3 _ _ hla2), SqL.of upd_same, _, rfl, ?_⟩
      generalize upd H2 e0 (.lst []) = H3 at S3 ⊢
      have R3 := R2.mono S3
      cases hue : us with
      | nil => exact iteFb rfl ⟨lo + r2, rfl, by omega, by omega, S3 _ _ hd2, KA.trans (Kx.of S3), R3.le (by omega)⟩
      | cons u0 us' =>
      rw [← hue]
      have hpos : 0 < (us.map V.ref).length := by rw [hue]; exact Nat.succ_pos _
      refine iteTb (by rw [hue]; rfl) ?_
      clear hue
      refine ⟨_, rfl, a, 3, b + 1, rfl, R3, by omega, by decide, by decide, fun r4 H4 r40 r41 kx4 R4 => ?_⟩
      refine ⟨_, _, rfl, rfl, _, rfl, ?_⟩
      by_cases z : 0 < r4
      · refine iteTb (decide_eq_true z) ?_
        refine ⟨_, rfl, _, rfl, a, la, _, b + 2, rfl, R4, by omega, nla, kx4 _ _ nla (S3 _ _ hla2), hpos, by rw [List.length_map]; omega, fun x H5 hx kx5 R5 => ?_⟩
        obtain ⟨i0, hi0⟩ := List.mem_iff_getElem?.mp hx
        obtain ⟨r0, e, rfl, he, hr0⟩ := (((tu2.same S3).kxs R3 kx4).kxs R4 kx5).get hi0
        have hbe := ok.bd e (List.mem_of_getElem? he)
        exact ⟨r0, _, _, .int e.1, rfl, rfl, SqT.of hr0, atI_nat (j := 0) rfl, e.1, rfl, hbe.1, hbe.2.1, kx5 _ _ nda (kx4 _ _ nda (S3 _ _ hd2)), ((KA.trans (Kx.of S3)).trans kx4).trans kx5, R5⟩
      · refine iteFb (decide_eq_false z) ?_
        exact ⟨lo + r2, rfl, by omega, by omega, kx4 _ _ nda (S3 _ _ hd2), (KA.trans (Kx.of S3)).trans kx4, R4.le (by omega)⟩
    rintro _ H6 ⟨x, rfl, x0, x1, hd6, K6, R6⟩
    clear hd2 hla2 tu2 KA R2
    -- its count
    refine ⟨_, rfl, d, rfl, .inl ⟨_, .inl hd6⟩, _, rfl, _, DGet.k (k := Sum.inl x) hd6, ?_⟩
    rw [kvI_get0 (ks := es.map (·.1)) rec_zero]
    refine ⟨_, rfl, _, rfl, _, rfl, _, rfl, (by show 5 ≤ sizeLine; decide), fun q hq => ?_⟩
    have Sq := same_new (o := .lst [V.int 1, .int (-1), .int 2, .int (-2), .int (-9)]) hq
    refine ⟨a, q, _, b + 3, rfl, R6.mono Sq, by omega, (R6.new hq).symm, upd_same, by show 0 < 5; decide, by show 5 < 1000; decide, fun y H7 hy kx7 R7 => ?_⟩
    obtain ⟨cc, rfl⟩ : ∃ cc : Int, y = .int cc := by
      simp only [List.mem_cons, List.not_mem_nil, or_false] at hy
      rcases hy with rfl | rfl | rfl | rfl | rfl <;> exact ⟨_, rfl⟩
    have hd7 := kx7 _ _ nda (Sq _ _ hd6)
    have K7 := (K6.trans (Kx.of Sq)).trans kx7
    clear hy Sq hq kx7 hd6 K6 R6
    have hkl : (es.map (·.1)).length ≤ 500 := by rw [List.length_map]; exact hel
    refine ⟨_, _, rfl, rfl, _, rfl, _, rfl, d, _, rfl, DPut.k (k := Sum.inl x) hd7 (by rw [kvI_len]; exact small_line (by omega)), ?_⟩
    rw [kvI_put]
    have nd0 := keys_nd ok.asc
    have hkb : ∀ y ∈ es.map (·.1), lo ≤ y ∧ y < hi := fun y hy => by
      obtain ⟨e, he, rfl⟩ := List.mem_map.mp hy
      have := ok.bd e he
      omega
    have nd1 : (if x ∈ es.map (·.1) then es.map (·.1) else es.map (·.1) ++ [x]).Nodup := by
      split
      · exact nd0
      · rename_i h
        exact List.nodup_append.mpr ⟨nd0, List.nodup_cons.mpr ⟨(fun z => by cases z), List.nodup_nil⟩, fun a ha b hb z => h (by rw [← List.mem_singleton.mp hb, ← z]; exact ha)⟩
    have hkb1 : ∀ y ∈ (if x ∈ es.map (·.1) then es.map (·.1) else es.map (·.1) ++ [x]), lo ≤ y ∧ y < hi := fun y hy => by
      split at hy
      · exact hkb y hy
      · rcases List.mem_append.mp hy with hy | hy
        · exact hkb y hy
        · rw [List.mem_singleton.mp hy]
          exact ⟨x0, x1⟩
    have hkl1 : (if x ∈ es.map (·.1) then es.map (·.1) else es.map (·.1) ++ [x]).length ≤ 501 := by
      split
      · omega
      · rw [List.length_append]
        show _ + 1 ≤ _
        omega
    generalize (if x ∈ es.map (·.1) then es.map (·.1) else es.map (·.1) ++ [x]) = ks at nd1 hkb1 hkl1 ⊢
    generalize (fun y => if y = x then recO es x + cc else recO es y) = cf
    have hd8 : (upd H7 d (.dK (kvI ks cf))) d = some (.dK (kvI ks cf)) := upd_same
    have K8 : Kx a H (upd H7 d (.dK (kvI ks cf))) := fun c u n e => by
      rw [upd_ne (ne_of_none e hd)]
      exact K7 c u n e
    have R8 : Src (upd H7 d (.dK (kvI ks cf))) a (b + 4) := by
      obtain ⟨s0, s1, s2, h1, h2⟩ := R7.ex
      exact ⟨s0, s1, s2, by rw [upd_ne nda.symm]; exact h1, h2⟩
    generalize upd H7 d (.dK (kvI ks cf)) = H8 at hd8 K8 R8 ⊢
    clear hd7 K7 R7 nd0 hkb hkl
    -- the log anew
    refine ⟨_, rfl, d, _, ks, rfl, hd8, by unfold kvI; rw [List.map_map]; rfl, fun ns pl hpm has hpl => ?_⟩
    have s9 := same_new (o := .lst (ns.map V.int)) hpl
    have hp9 : (upd H8 pl (.lst (ns.map V.int))) pl = some (.lst (ns.map V.int)) := upd_same
    have hd9 := s9 _ _ hd8
    generalize upd H8 pl (.lst (ns.map V.int)) = H9 at s9 hp9 hd9 ⊢
    have hnl : ns.length = ks.length := hpm.length_eq
    have nd2 : ns.Nodup := hpm.nodup_iff.mpr nd1
    have asc : ns.Pairwise (· < ·) := (has.and nd2).imp fun {a b} h => by
      have h1 := h.1
      have h2 : a ≠ b := h.2
      omega
    refine ⟨pl, rfl, ⟨_, SqL.of hp9⟩, fun D hD => lc_list (a := pl) (xs := ns.map V.int) (fun i H' => Same H9 H' ∧ ∃ ws : List Addr, H' D = some (.lst (ws.map V.ref)) ∧ TupsI H' ws (((ns.take i).map fun x => (x, cf x)).filter fun p => decide (0 < p.2)) ∧ ws.length ≤ i) ⟨same_new hD, [], upd_same, TupsI.nil, Nat.le_refl _⟩ (fun i H' _ z => SqL.of (z.1 _ _ hp9)) (fun i x H3 hx z => ?_) (fun H3 z => ?_)⟩
    · obtain ⟨S3, ws, hD3, tw, hwl⟩ := z
      obtain ⟨y, hy, rfl⟩ := map_of hx
      have hi := (List.getElem?_eq_some_iff.mp hy).1
      have hyk : y ∈ ks := hpm.mem_iff.mp (List.mem_of_getElem? hy)
      have hg : DGet H3 d (kV (Sum.inl y)) (some (V.int (cf y))) := by
        have g := DGet.k (k := Sum.inl y) (S3 _ _ hd9)
        rw [kvI_val, if_pos hyk] at g
        exact g
      refine ⟨rfl, ?_⟩
      refine ⟨_, rfl, _, rfl, d, _, rfl, hg, _, _, rfl, rfl, _, rfl, ?_⟩
      rw [List.take_add_one, hy, List.map_append, List.filter_append]
      have e1 : ((some y).toList.map fun x => (x, cf x)).filter (fun p => decide (0 < p.2)) = if 0 < cf y then [(y, cf y)] else [] := by
        show List.filter _ [(y, cf y)] = _
        rw [List.filter_cons]
        by_cases z : 0 < cf y
        · rw [if_pos (decide_eq_true z), if_pos z]
          rfl
        · rw [if_neg (fun q => z (of_decide_eq_true q)), if_neg z]
          rfl
      rw [e1]
      by_cases z : 0 < cf y
      · rw [if_pos z]
        refine iteTb (decide_eq_true z) ?_
        refine ⟨_, rfl, _, rfl, _, rfl, d, _, rfl, hg, (by show 2 ≤ sizeLine; decide), fun t ht => ?_⟩
        have s4 := same_new (o := .tup [V.int y, V.int (cf y)]) ht
        have nDt : D ≠ t := ne_of_none hD3 ht
        refine ⟨_, s4 _ _ hD3, by rw [List.length_map]; exact small1000 (by omega), same_app hD (S3.trans s4), ws ++ [t], by rw [upd_same, List.map_append]; rfl, ?_, by rw [List.length_append]; show _ + 1 ≤ _; omega⟩
        refine TupsI.snoc (tw.kx fun r xs h => ?_) ?_
        · rw [upd_ne (ne_of h hD3 (by intro z; cases z))]
          exact s4 _ _ h
        · rw [upd_ne nDt.symm, upd_same]
      · rw [if_neg z, List.append_nil]
        exact iteFb (decide_eq_false z) ⟨S3, ws, hD3, tw, by omega⟩
    · obtain ⟨S3, ws, hD3, tw, hwl⟩ := z
      rw [List.length_map, List.take_length] at tw
      have S13 := s9.trans S3
      exact k D ws _ H3 (R8.mono s9 |>.new hD).symm hD3 tw (chg_ok asc (fun x hx => hkb1 x (hpm.mem_iff.mp hx)) (by omega)) (K8.trans (Kx.of S13)) (R8.mono S13)
end
end RS
namespace RS
open PySem L2
def klN : List Str := ["_law_script", "_law_cell", "_law_source", "_law_gaps", "_law_tail_here", "_law_offsets_here", "_law_rule", "_law_first", "_law_window", "_law_width", "_law_starts", "_law_log", "_law_due", "_law_told", "_law_repeat", "_law_client", "_law_start"]
theorem scLaw : FnScope klN ["_law_script"] (defScope s_law) := ⟨rfl, rfl, rfl, by decide +kernel, rfl, by decide +kernel, by decide +kernel⟩
theorem flat_congr {f g : Int → List (Int × Int)} : ∀ {bs : List Int}, (∀ b ∈ bs, f b = g b) → bs.flatMap f = bs.flatMap g
  | [], _ => rfl
  | b :: bs, h => by
    rw [List.flatMap_cons, List.flatMap_cons, h b (List.mem_cons_self ..), flat_congr fun x hx => h x (List.mem_cons_of_mem _ hx)]
/-- a log of starts in a near window -/
structure NearAt (gs : List Int) (tl : Tl) (lo hi : Int) (bs : List Int) (f : Int → Nat) (m : Nat) (es : List (Int × Int)) : Prop where
  hb : ∀ b ∈ bs, lo ≤ b ∧ b < hi
  hN : ∀ b ∈ bs, CntB gs tl (hi - b) (f b)
  lg : LogOf (bs.flatMap fun b => (slotR gs tl b 0 (f b)).map fun s => (s, (1 : Int))) es
  h5 : es.length ≤ 500
theorem near_at {gs : List Int} {tl : Tl} (okG : GapsOk gs) (okT : TlOk gs.length tl) {lo hi : Int} (h : hi - lo ≤ 200) {bs : List Int} (hb : ∀ b ∈ bs, lo ≤ b ∧ b < hi) {es : List (Int × Int)} (lg : LogOf (bs.flatMap (entB (planO gs tl) lo hi)) es) {m : Nat} (hm : CntB gs tl (hi - lo) m) : ∃ f, NearAt gs tl lo hi bs f m es := by
  obtain ⟨f, hf⟩ := near_all okG okT (lo := lo) (hi := hi) (by omega)
  have e : bs.flatMap (entB (planO gs tl) lo hi) = bs.flatMap fun b => (slotR gs tl b 0 (f b)).map fun s => (s, (1 : Int)) := flat_congr fun b h => ent_slot okG okT (hb b h).1 (by omega) (hf b (hb b h).1).2
  rw [e] at lg
  have hN : ∀ b ∈ bs, CntB gs tl (hi - b) (f b) := fun b h => (hf b (hb b h).1).2
  refine ⟨f, hb, hN, lg, ?_⟩
  have asc : (es.map (·.1)).Pairwise (· < ·) := List.pairwise_map.mpr lg.asc
  have := asc_len (lo := lo) (hi := hi) asc fun x hx => by
    obtain ⟨e, he, rfl⟩ := List.mem_map.mp hx
    obtain ⟨b, hbm, hx⟩ := (in_mem okG okT hb hN lg e.1).mp ⟨e, he, rfl⟩
    have := in_bd okG okT hb hN hbm hx
    have := (hb b hbm).1
    omega
  rw [List.length_map] at this
  omega
theorem near_walk {gs : List Int} {tl : Tl} (okG : GapsOk gs) (okT : TlOk gs.length tl) {lo hi : Int} (hlh : lo < hi) (h : hi - lo ≤ 200) {es : List (Int × Int)} (ok : LogOk es lo hi) {m : Nat} (hm : CntB gs tl (hi - lo) m) :
    infRes (offR gs tl 0 (min m (es.length + 1))) hi (logB es) (es ++ [(hi, 0)]) (inf0 hi) = wkRes ((planO gs tl).drop 1) (recO es) (hi - lo).toNat lo ⟨fun _ => 0, []⟩ :=
  walk_is okG okT hm ok (fun e he => recO_at ok.asc he) (fun x hx => recO_no hx) (fun d h0 h1 => plan_later okG okT h0 (by omega)) hlh
section
variable {P : Program} {w : World} {K : PySem.W.Frag} {mg : Str → Option Value} {base : Heap}
theorem ok_law {f C fI fCell fSrc fPl fN fO fCo fIn fWk fCh : Addr} {fd fdI fdCell fdSrc fdPl fdN fdO fdCo fdIn fdWk fdCh : FuncData} (F : Fun K "law" "law" s_law f fd) (T : Txt K mg C) (M : Mk K C fI) (zset : mg "set" = none) (GI : FnOk P w K mg base CX0 3 fI fdI ["self", "gaps", "tail"] (spInit C)) (bI : Binds K fdI ["self", "gaps", "tail"] [])
    (GCell : FnOk P w K mg base CX0 1 fCell fdCell ["_law_script", "_law_index"] (spCell K)) (bCell : Binds K fdCell ["_law_script", "_law_index"] []) (mCell : mg "_law_cell_at" = some (.ref fCell)) (kCell : PySem.W.keepIn K (.ref fCell) = true)
    (GSrc : FnOk P w K mg base CX0 1 fSrc fdSrc ["_law_cell"] spSrcOf) (bSrc : Binds K fdSrc ["_law_cell"] []) (mSrc : mg "_law_source_of" = some (.ref fSrc)) (kSrc : PySem.W.keepIn K (.ref fSrc) = true)
    (GPl : FnOk P w K mg base CX0 4 fPl fdPl ["_law_source", "_law_words"] spPl) (bPl : Binds K fdPl ["_law_source", "_law_words"] []) (mPl : mg "_law_plan" = some (.ref fPl)) (kPl : PySem.W.keepIn K (.ref fPl) = true)
    (GN : FnOk P w K mg base CX0 1 fN fdN ["_law_source", "_law_bound"] spNext) (bN : Binds K fdN ["_law_source", "_law_bound"] []) (mN : mg "_law_draw" = some (.ref fN)) (kN : PySem.W.keepIn K (.ref fN) = true)
    (GO : FnOk P w K mg base CX0 2 fO fdO ["_law_source", "_law_options"] spOne) (bO : Binds K fdO ["_law_source", "_law_options"] []) (mO : mg "_law_choice" = some (.ref fO)) (kO : PySem.W.keepIn K (.ref fO) = true)
    (GCo : FnOk P w K mg base CX0 1 fCo fdCo ["_law_offsets_here", "_law_window", "_law_starts"] spCo) (bCo : Binds K fdCo ["_law_offsets_here", "_law_window", "_law_starts"] []) (mCo : mg "_law_counted" = some (.ref fCo)) (kCo : PySem.W.keepIn K (.ref fCo) = true)
    (GIn : FnOk P w K mg base CX0 7 fIn fdIn ["rule", "window", "log"] (spIn C)) (bIn : Binds K fdIn ["rule", "window", "log"] []) (mIn : mg "infer_starts" = some (.ref fIn)) (kIn : PySem.W.keepIn K (.ref fIn) = true)
    (GWk : FnOk P w K mg base CX0 1 fWk fdWk ["_law_offsets_here", "_law_window", "_law_log"] spWk) (bWk : Binds K fdWk ["_law_offsets_here", "_law_window", "_law_log"] []) (mWk : mg "_law_walked" = some (.ref fWk)) (kWk : PySem.W.keepIn K (.ref fWk) = true)
    (GCh : FnOk P w K mg base CX0 3 fCh fdCh ["_law_source", "_law_window", "_law_log"] spCh) (bCh : Binds K fdCh ["_law_source", "_law_window", "_law_log"] []) (mCh : mg "_law_changed" = some (.ref fCh)) (kCh : PySem.W.keepIn K (.ref fCh) = true) :
    FnOk P w K mg base CX0 8 f fd ["_law_script"] (spLaw K) := by
  refine F.ok scLaw (fun vs H Q E h => ?_) (fun cdv A outer s H vs Q E hr h => ?_)
  · obtain ⟨a, ns, rfl, _⟩ := h
    rfl
  · obtain ⟨sc, ns, rfl, hs, hn63, k⟩ := h
    have hr1 := hr.mono (show 1 ≤ 7 by decide)
    have hr2 := hr.mono (show 2 ≤ 7 by decide)
    have hr3 := hr.mono (show 3 ≤ 7 by decide)
    have hr4 := hr.mono (show 4 ≤ 7 by decide)
    refine ⟨_, (pss_cons (ps_for PassesOwn.never rfl (pi_list (pe_op op_cat (pe_lst (pa_cons (pe_call GCell hr1 rfl mCell kCell bCell .nil pass0 (pa_cons (pv 0) (pa_cons pe_int pa_nil))) pa_nil)) (pe_slice sl_list (pv 0) (po_some pe_int) (po_some pe_int)))) (pg_name (i := 1) scLaw.nd rfl (Or.inl rfl)) (pss_cons (ps_set (i := 2) scLaw.nd rfl (Or.inr rfl) (pe_call GSrc hr1 rfl mSrc kSrc bSrc .nil pass0 (pa_cons (pv 1) pa_nil))) (pss_cons (ps_asg (pe_call GPl hr4 rfl mPl kPl bPl .nil pass0 (pa_cons (pv 2) (pa_cons (pe_lst (pa_cons pe_str (pa_cons pe_str (pa_cons pe_str (pa_cons pe_str pa_nil))))) pa_nil))) (pg_tup rfl (pgs_cons (pg_name (i := 3) scLaw.nd rfl (Or.inl rfl)) (pgs_cons (pg_name (i := 4) scLaw.nd rfl (Or.inl rfl)) (pgs_cons (pg_name (i := 5) scLaw.nd rfl (Or.inl rfl)) pgs_nil))))) (pss_cons (ps_set (i := 6) scLaw.nd rfl (Or.inl rfl) (pe_make M GI hr4 rfl T.mgC bI .nil pass0 (pa_cons (pv 3) (pa_cons (pv 4) pa_nil)))) (pss_cons (ps_set (i := 7) scLaw.nd rfl (Or.inr rfl) (pe_op op_sub (pe_call GN hr1 rfl mN kN bN .nil pass0 (pa_cons (pv 2) (pa_cons pe_int pa_nil))) pe_int)) (pss_cons (ps_set (i := 8) scLaw.nd rfl (Or.inl rfl) (pe_tup (pa_cons (pv 7) (pa_cons (pe_op op_add (pe_op op_add (pv 7) pe_int) (pe_call GN hr1 rfl mN kN bN .nil pass0 (pa_cons (pv 2) (pa_cons (pe_call GO hr2 rfl mO kO bO .nil pass0 (pa_cons (pv 2) (pa_cons (pe_lst (pa_cons pe_int (pa_cons pe_int (pa_cons pe_int pa_nil)))) pa_nil))) pa_nil)))) pa_nil)))) (pss_cons (ps_set (i := 9) scLaw.nd rfl (Or.inr rfl) (pe_op op_sub (pe_ix ix_tup (pv 8) pe_int (fun _ _ => rfl)) (pe_ix ix_tup (pv 8) pe_int (fun _ _ => rfl)))) (pss_cons (ps_set (i := 10) scLaw.nd rfl (Or.inr rfl) (pe_callB cr_sortedI (by rfl) T.sorted (by decide +kernel) (pa_cons (pe_lc (own := [("_law_client", 15)]) (g := gName 15) (tt := tYes) rfl scLaw.nd (pi_range1 rfl T.range (pa_cons (pe_call GN hr1 rfl mN kN bN .nil pass0 (pa_cons (pv 2) (pa_cons pe_int pa_nil))) pa_nil)) (blkOk_by (own := [("_law_client", 15)]) (N := klN) (sc := (defScope s_law)) (by decide +kernel)) (fun _ _ _ _ _ => (pg_name (i := 15) scLaw.nd rfl (Or.inl rfl))) (fun _ _ _ _ _ => pts_nil) (fun _ _ _ _ _ => (pe_op op_add (pv 7) (pe_call GN hr1 rfl mN kN bN .nil pass0 (pa_cons (pv 2) (pa_cons (pv 9) pa_nil)))))) pa_nil))) (pss_cons (ps_set (i := 11) scLaw.nd rfl (Or.inl rfl) (pe_call GCo hr1 rfl mCo kCo bCo .nil pass0 (pa_cons (pv 5) (pa_cons (pv 8) (pa_cons (pv 10) pa_nil))))) (pss_cons (ps_setLc (i := 12) (own := [("_law_start", 16)]) (g := gName 16) (tt := tYes) (by rfl) scLaw.nd rfl rfl (sw_true rfl rfl rfl (by decide +kernel)) (pi_list (pe_callB (cr_sortedSet rfl) (by rfl) T.sorted (by decide +kernel) (pa_cons (pe_callTy (cr_setL rfl) (by rfl) zset (by decide +kernel) (pa_cons (pv 10) pa_nil)) pa_nil))) (blkOk_by (own := [("_law_start", 16)]) (N := klN) (sc := (defScope s_law)) (by decide +kernel)) (fun _ _ _ _ _ => (pg_name (i := 16) scLaw.nd rfl (Or.inl rfl))) (fun _ _ _ _ _ => pts_nil) (fun _ _ _ _ _ => (pe_tup (pa_cons (pv 16) (pa_cons (pe_bmK (K := K) (T := "list") rfl (pe_bm (r := rCntI K) PySem.F.plainAttrs_list PySem.F.slot_list_count PySem.F.type_list_count mt_lcount (pv 10) (pa_cons (pv 16) pa_nil))) pa_nil))))) (pss_cons (ps_set (i := 13) scLaw.nd rfl (Or.inl rfl) (pe_call GIn hr rfl mIn kIn bIn .nil pass0 (pa_cons (pv 6) (pa_cons (pv 8) (pa_cons (pv 11) pa_nil))))) (Evl.pss_cut (ps_if (PW.pt (pw_or (pt_cmpR (op_neD hr.units) (pv 13) (pe_tup (pa_cons pe_str (pa_cons (pv 12) pa_nil))) (nomark _)) (pw_or1 (pt_cmpR (op_neD hr.units) (pv 13) (pe_call GWk hr1 rfl mWk kWk bWk .nil pass0 (pa_cons (pv 5) (pa_cons (pv 8) (pa_cons (pv 11) pa_nil)))) (nomark _))))) (pss_one (ps_ret pe_bl)) pss_nil) (pss_cons (ps_expr (pe_bm PySem.F.plainAttrs_list PySem.F.slot_list_append PySem.F.type_list_append mt_append (pe_ix ix_tup (pv 13) pe_int (fun _ _ => rfl)) (pa_cons pe_non pa_nil))) (Evl.pss_cut (ps_if (pt_cmpR (op_neD hr.units) (pe_call GIn hr rfl mIn kIn bIn .nil pass0 (pa_cons (pv 6) (pa_cons (pv 8) (pa_cons (pv 11) pa_nil)))) (pe_tup (pa_cons pe_str (pa_cons (pv 12) pa_nil))) (nomark _)) (pss_one (ps_ret pe_bl)) pss_nil) (pss_one (ps_for PassesOwn.never rfl (pi_range1 rfl T.range (pa_cons pe_int pa_nil)) (pg_name (i := 14) scLaw.nd rfl (Or.inl rfl)) (pss_cons (ps_set (i := 11) scLaw.nd rfl (Or.inl rfl) (pe_call GCh hr3 rfl mCh kCh bCh .nil pass0 (pa_cons (pv 2) (pa_cons (pv 8) (pa_cons (pv 11) pa_nil))))) (pss_one (ps_if (pt_cmpR (op_neD hr.units) (pe_call GIn hr rfl mIn kIn bIn .nil pass0 (pa_cons (pv 6) (pa_cons (pv 8) (pa_cons (pv 11) pa_nil)))) (pe_call GWk hr1 rfl mWk kWk bWk .nil pass0 (pa_cons (pv 5) (pa_cons (pv 8) (pa_cons (pv 11) pa_nil)))) (nomark _)) (pss_one (ps_ret pe_bl)) pss_nil))))))))))))))))))) (pss_one (ps_ret pe_bl))), ?_⟩
    -- the cells
    refine ⟨_, rfl, sc, ns, rfl, hs, (by show 1 ≤ sizeLine; decide), fun l1 hl1 => ?_⟩
    refine ⟨_, rfl, _, rfl, _, rfl, sc, _, rfl, (same_new hl1).seq hs, fun l2 hl2 => ?_⟩
    have hl1' := same_new (o := .lst (cutV (ns.map V.int) (some 1) (some 4))) hl2 _ _ (upd_same (H := H) (a := l1) (o := .lst [V.int (ns.getD 0 0)]))
    refine ⟨l1, l2, _, _, rfl, rfl, hl1', upd_same, ?_, fun L hL => ?_⟩
    · have := cutV_length (ns.map V.int) (some 1) (some 4)
      rw [List.length_map] at this
      exact Nat.le_of_lt (small1000 (by show 1 + _ ≤ 1000; omega))
    have ecs : [V.int (ns.getD 0 0)] ++ cutV (ns.map V.int) (some 1) (some 4) = (cellsOf 4 ns).map V.int := by
      rw [show (some (1 : Int)) = some ((1 : Nat) : Int) from rfl, show (some (4 : Int)) = some ((4 : Nat) : Int) from rfl, cut_mid]
      unfold cellsOf
      rw [List.map_cons, List.map_take, List.map_drop]
      rfl
    rw [ecs]
    generalize cellsOf 4 ns = cs
    refine ⟨L, rfl, ⟨_, SqL.of upd_same⟩, for_list (a := L) (xs := cs.map V.int) (fun i σ H' => (∃ v1 v2 v3 v4 v5 v6 v7 v8 v9 v10 v11 v12 v13 v14 v15 v16, σ = [some (.ref sc), v1, v2, v3, v4, v5, v6, v7, v8, v9, v10, v11, v12, v13, v14, v15, v16]) ∧ H' L = some (.lst (cs.map V.int))) ⟨⟨_, _, _, _, _, _, _, _, _, _, _, _, _, _, _, _, rfl⟩, upd_same⟩ (fun i σ H' _ p => SqL.of p.2) ?_ (fun σ H' p => k H')⟩
    rintro i x σ H0 hx ⟨⟨v1, v2, v3, v4, v5, v6, v7, v8, v9, v10, v11, v12, v13, v14, v15, v16, rfl⟩, hL0⟩
    obtain ⟨c, _, rfl⟩ := map_of hx
    clear hx
    refine ⟨_, rfl, c, rfl, fun a H1 ha S1 R1 => ?_⟩
    have nLa : L ≠ a := ne_of_none hL0 ha
    have hL1 := S1 _ _ hL0
    clear hL0 ha S1
    -- the plan
    refine ⟨_, rfl, (by show 4 ≤ sizeLine; decide), fun wl hwl => ?_⟩
    have sw := same_new (o := .lst [V.str "end", V.str "times", V.str "repeat", V.str "repeat"]) hwl
    refine ⟨a, wl, ["end", "times", "repeat", "repeat"], 0, rfl, R1.mono sw, by omega, (R1.new hwl).symm, upd_same, ⟨by decide, by decide, fun z hz => ?_⟩, fun u g t oa gs tl H4 nga nta noa hu4 hg4 ht oa4 okG okT kx4 R4 => ?_⟩
    · rcases List.mem_cons.mp hz with e | e
      · exact .inl e
      · rcases List.mem_cons.mp e with e | e
        · exact .inr (.inl e)
        · rcases List.mem_cons.mp e with e | e
          · exact .inr (.inr e)
          · exact .inr (.inr (List.mem_singleton.mp e))
    have hL4 := kx4 _ _ nLa (sw _ _ hL1)
    clear kx4 R1 hL1 sw hwl
    refine ⟨u, _, rfl, SqT.of hu4, rfl, _, _, rfl, _, _, rfl, _, _, rfl, rfl, ?_⟩
    -- the rule
    refine ⟨_, rfl, _, rfl, fun p dx hp hdx _ => ?_⟩
    have Sm : Same H4 (upd (upd H4 dx (.own p)) p (.ins C dx [])) := made_same hp hdx
    refine ⟨p, dx, g, t, gs, tl, rfl, upd_same, Sm _ _ hg4, Sm _ _ ht, okG, okT, fun g2 o H5 hg2 ho kp R5 => ⟨rfl, ?_⟩⟩
    have S5 : Same H4 H5 := fun b u e => kp b u (Sm _ _ e) (ne_of_none e hp)
    have Ra := R4.mono Sm
    have K5 : RK C H5 a p g2 t o gs tl := ⟨R5, (R4.new hp).symm, (Ra.new hg2).symm, nta, (Ra.new ho).symm⟩
    have hL5 := S5 _ _ hL4
    have R5s := R4.mono S5
    have oa5 := S5 _ _ oa4
    clear hL4 R4 Sm hp hdx hg2 ho kp R5 S5 Ra hg4 ht nga hu4 oa4
    -- the window
    refine ⟨_, rfl, a, 100, 21, rfl, R5s, by omega, by decide, by decide, fun f0 H6 f00 f01 kx6 R6 => ?_⟩
    refine ⟨_, _, rfl, rfl, ?_⟩
    have K6 := K5.kx kx6
    have hL6 := kx6 _ _ nLa hL5
    have oa6 := kx6 _ _ noa oa5
    clear K5 hL5 oa5 R5s kx6
    refine ⟨_, rfl, _, rfl, _, _, rfl, rfl, _, rfl, _, rfl, (by show 3 ≤ sizeLine; decide), fun q hq => ?_⟩
    have Sq := same_new (o := .lst [V.int 9, .int 60, .int 150]) hq
    refine ⟨a, q, _, 22, rfl, R6.mono Sq, by omega, (R6.new hq).symm, upd_same, by show 0 < 3; decide, by show 3 < 1000; decide, fun x H7 hx kx7 R7 => ?_⟩
    obtain ⟨wd0, rfl, wd1, wd2⟩ : ∃ wd0 : Int, x = .int wd0 ∧ 1 ≤ wd0 ∧ wd0 ≤ 150 := by
      simp only [List.mem_cons, List.not_mem_nil, or_false] at hx
      rcases hx with rfl | rfl | rfl <;> exact ⟨_, rfl, by decide, by decide⟩
    have K7 := (K6.same Sq).kx kx7
    have hL7 := kx7 _ _ nLa (Sq _ _ hL6)
    have oa7 := kx7 _ _ noa (Sq _ _ oa6)
    clear K6 hL6 oa6 R6 Sq hq hx kx7
    refine ⟨a, wd0, 23, rfl, R7, by omega, wd1, by omega, fun r8 H8 r80 r81 kx8 R8 => ?_⟩
    have K8 := K7.kx kx8
    have hL8 := kx8 _ _ nLa hL7
    have oa8 := kx8 _ _ noa oa7
    clear K7 hL7 oa7 R7 kx8
    refine ⟨_, _, rfl, rfl, (by show 2 ≤ sizeLine; decide), fun wa hwa => ?_⟩
    obtain ⟨lo, hlo⟩ : ∃ lo : Int, lo = f0 - 50 := ⟨_, rfl⟩
    obtain ⟨hi, hhi⟩ : ∃ hi : Int, hi = f0 - 50 + 1 + r8 := ⟨_, rfl⟩
    generalize hH9 : upd H8 wa (.tup [.int (f0 - 50), .int (f0 - 50 + 1 + r8)]) = H9 at ⊢
    have S9 : Same H8 H9 := hH9 ▸ same_new hwa
    have hw9 : H9 wa = some (.tup [.int lo, .int hi]) := by rw [← hH9, upd_same, hlo, hhi]
    have K9 := K8.same S9
    have hL9 := S9 _ _ hL8
    have oa9 := S9 _ _ oa8
    have R9 := R8.mono S9
    have nwa : wa ≠ a := R9.nt hw9
    clear hH9 hwa S9 K8 hL8 R8 oa8
    refine ⟨_, rfl, wa, _, _, _, rfl, rfl, SqT.of hw9, atI_nat (j := 1) rfl, _, rfl, wa, _, _, _, rfl, rfl, SqT.of hw9, atI_nat (j := 0) rfl, _, _, rfl, rfl, ?_⟩
    -- the starts
    refine ⟨_, rfl, a, 9, 24, rfl, R9, by omega, by decide, by decide, fun cn H10 cn0 cn1 kx10 R10 => ?_⟩
    have K10 := K9.kx kx10
    have hL10 := kx10 _ _ nLa hL9
    have hw10 := kx10 _ _ nwa hw9
    have oa10 := kx10 _ _ noa oa9
    clear K9 hL9 hw9 R9 kx10 oa9
    refine ⟨cn, rfl, by omega, by omega, fun D hD => ?_⟩
    have naD : a ≠ D := R10.new hD
    refine lc_range (lo := 0) (n := cn.toNat) (fun i H' => ∃ bs : List Int, bs.length = i ∧ (∀ b ∈ bs, lo ≤ b ∧ b < hi) ∧ H' D = some (.lst (bs.map V.int)) ∧ Kx a H10 H' ∧ Src H' a (25 + i)) ⟨[], rfl, fun b hb => (nomatch hb), upd_same, Kx.of (same_new hD), R10.mono (same_new hD)⟩ (fun i H' hi' z => ?_) (fun H11 z => ?_)
    · obtain ⟨bs, hl, hb, hd, kx, R⟩ := z
      refine ⟨rfl, ?_⟩
      refine yes_t (iteT ?_)
      refine ⟨_, rfl, _, rfl, _, rfl, a, hi - lo, 25 + i, rfl, R, by omega, by omega, by omega, fun r H12 r0 r1 kx12 R12 => ⟨_, _, rfl, rfl, bs.map V.int, kx12 D _ naD.symm hd, ?_, bs ++ [lo + r], ?_, ?_, ?_, ?_, ?_⟩⟩
      · rw [List.length_map]
        exact small1000 (by omega)
      · rw [List.length_append, hl]
        rfl
      · intro b hm
        rcases List.mem_append.mp hm with hm | hm
        · exact hb b hm
        · obtain rfl := List.mem_singleton.mp hm
          omega
      · rw [upd_same, List.map_append, hlo]
        rfl
      · intro c' u n e
        rw [upd_ne (ne_of_none e hD)]
        exact kx12 c' u n (kx c' u n e)
      · obtain ⟨s0, s1, s2, h1, h2⟩ := R12.ex
        exact ⟨s0, s1, s2, by rw [upd_ne naD]; exact h1, by omega⟩
    obtain ⟨bs0, hbl, hb0, hd, kx11, R11⟩ := z
    have K11 := K10.kx kx11
    have hL11 := kx11 _ _ nLa hL10
    have hw11 := kx11 _ _ nwa hw10
    have oa11 := kx11 _ _ noa oa10
    clear K10 hL10 hw10 R10 kx11 oa10
    refine ⟨D, bs0, rfl, SqL.of hd, fun bs st hperm hsrt hst => ?_⟩
    have hb : ∀ b ∈ bs, lo ≤ b ∧ b < hi := fun b h => hb0 b (hperm.mem_iff.mp h)
    have hb2 : bs.length ≤ 9 := by
      rw [hperm.length_eq]
      omega
    have S12 := same_new (o := .lst (bs.map V.int)) hst
    have hs12 : (upd H11 st (.lst (bs.map V.int))) st = some (.lst (bs.map V.int)) := upd_same
    generalize upd H11 st (.lst (bs.map V.int)) = H12 at S12 hs12 ⊢
    have K12 := K11.same S12
    have hL12 := S12 _ _ hL11
    have hw12 := S12 _ _ hw11
    have oa12 := S12 _ _ oa11
    have nst : st ≠ a := (R11.new hst).symm
    have R12 := (R11.mono S12).le (show 25 + cn.toNat ≤ 40 by omega)
    clear K11 hL11 hw11 R11 hst S12 hd hb0 hbl hperm naD hD oa11
    -- the log
    refine ⟨_, rfl, _, rfl, _, rfl, oa, wa, st, planO gs tl, bs, lo, hi, rfl, oa12, hw12, hs12, Nat.le_trans plan_len (by decide), by omega, fun lq ws es H13 hlq hwn S13 hlq1 tw lg => ?_⟩
    obtain ⟨hd0, m, hm501, hm⟩ := near_ex okG okT (d := hi - lo) (by omega)
    obtain ⟨fq, NA⟩ := near_at okG okT (lo := lo) (hi := hi) (by omega) hb lg hm
    clear lg
    have K13 := K12.same S13
    have hL13 := S13 _ _ hL12
    have hw13 := S13 _ _ hw12
    have hs13 := S13 _ _ hs12
    have oa13 := S13 _ _ oa12
    have R13 := R12.mono S13
    have nlq : lq ≠ a := (R12.new hlq).symm
    clear K12 hL12 hw12 hs12 R12 S13 hlq hwn oa12
    have ok := log_ok okG okT NA.hb NA.hN NA.lg NA.h5
    -- what is due
    refine ⟨_, rfl, st, bs, rfl, SqL.of hs13, by omega, fun sp n hsp hn => ?_⟩
    have S15 := same_new (o := SetO (cxOf CX0 P w K mg base klN "law" (defScope s_law) f cdv A outer s H E).nox.w sp (fun j => decide (j ∈ bs)) n) hsp
    refine ⟨sp, _, n, rfl, upd_same, by omega, fun ss sq hasc hmem hlen hsq => ?_⟩
    have S16 := S15.trans (same_new (o := .lst (ss.map V.int)) hsq)
    have hm16 : (upd (upd H13 sp (SetO (cxOf CX0 P w K mg base klN "law" (defScope s_law) f cdv A outer s H E).nox.w sp (fun j => decide (j ∈ bs)) n)) sq (.lst (ss.map V.int))) sq = some (.lst (ss.map V.int)) := upd_same
    generalize upd (upd H13 sp (SetO (cxOf CX0 P w K mg base klN "law" (defScope s_law) f cdv A outer s H E).nox.w sp (fun j => decide (j ∈ bs)) n)) sq (.lst (ss.map V.int)) = H16 at S16 hm16 ⊢
    have hss : ∀ x, x ∈ ss ↔ x ∈ bs := fun x => by rw [hmem, decide_eq_true_iff]
    have hss2 : ss.length ≤ 9 := by omega
    clear S15 hsp hsq hmem hlen hn
    have K16 := K13.same S16
    have hL16 := S16 _ _ hL13
    have hw16 := S16 _ _ hw13
    have hs16 := S16 _ _ hs13
    have hq16 := S16 _ _ hlq1
    have tw16 := tw.same S16
    have oa16 := S16 _ _ oa13
    have R16 := R13.mono S16
    clear K13 hL13 hw13 hs13 hlq1 tw R13 S16 oa13
    refine ⟨sq, rfl, ⟨_, SqL.of hm16⟩, fun D2 hD2 => lc_list (a := sq) (xs := ss.map V.int) (fun i H' => Same H16 H' ∧ ∃ us : List Addr, H' D2 = some (.lst (us.map V.ref)) ∧ TupsI H' us ((ss.take i).map fun s => (s, ((bs.count s : Nat) : Int))) ∧ us.length = i) ⟨same_new hD2, [], upd_same, TupsI.nil, rfl⟩ (fun i H' _ z => SqL.of (z.1 _ _ hm16)) (fun i x H17 hx z => ?_) (fun H17 z => ?_)⟩
    · obtain ⟨S17, us, hD17, tp, hul⟩ := z
      obtain ⟨y, hy, rfl⟩ := map_of hx
      have hi' := (List.getElem?_eq_some_iff.mp hy).1
      refine ⟨rfl, yes_t (iteT ?_)⟩
      refine ⟨_, rfl, _, rfl, .inl ⟨rfl, _, SqL.of (S17 _ _ hs16)⟩, _, rfl, st, bs, y, rfl, rfl, SqL.of (S17 _ _ hs16), (by show 2 ≤ sizeLine; decide), fun tt htt => ?_⟩
      have s4 := same_new (o := .tup [V.int y, V.int ((bs.count y : Nat) : Int)]) htt
      have nDt : D2 ≠ tt := ne_of_none hD17 htt
      refine ⟨_, s4 _ _ hD17, by rw [List.length_map]; exact small1000 (by omega), same_app hD2 (S17.trans s4), us ++ [tt], by rw [upd_same, List.map_append]; rfl, ?_, by rw [List.length_append, hul]; rfl⟩
      rw [List.take_add_one, hy, List.map_append]
      refine TupsI.snoc (tp.kx fun r xs h => ?_) ?_
      · rw [upd_ne (ne_of h hD17 (by intro z; cases z))]
        exact s4 _ _ h
      · rw [upd_ne nDt.symm, upd_same]
    obtain ⟨S17, us, hD17, tp, hul⟩ := z
    rw [List.length_map, List.take_length, ← due_is okG okT NA.hb NA.hN NA.lg hasc hss] at tp
    have K17 := K16.same S17
    have hL17 := S17 _ _ hL16
    have hw17 := S17 _ _ hw16
    have hq17 := S17 _ _ hq16
    have tw17 := tw16.same S17
    have oa17 := S17 _ _ oa16
    have R17 := R16.mono S17
    have nD2 : D2 ≠ a := (R16.new hD2).symm
    rw [List.length_map] at hul
    clear K16 hL16 hw16 hs16 hq16 tw16 R16 S17 hm16 hD2 oa16
    -- what is told
    refine ⟨_, rfl, _, rfl, _, rfl, p, g2, t, o, wa, lq, gs, tl, lo, hi, ws, es, m, rfl, K17.R, hw17, by omega, hq17, tw17, ok, hd0, hm, fun tq H18 S18 htq hnew => ?_⟩
    have ebk := inf_back okG okT NA.hb NA.hN NA.lg hm
    have ewk := near_walk okG okT (by omega) (by omega) ok hm
    have K18 := K17.same S18
    have hL18 := S18 _ _ hL17
    have hw18 := S18 _ _ hw17
    have hq18 := S18 _ _ hq17
    have tw18 := tw17.same S18
    have oa18 := S18 _ _ oa17
    have hD18 := S18 _ _ hD17
    have tp18 := tp.same S18
    have R18 := R17.mono S18
    have keep : ∀ b u, H17 b = some u → H18 b = some u := S18
    -- the same as walked
    refine ⟨fun σ H' => σ = [some (.ref sc), some (.int c), some (.ref a), some (.ref g), some (.ref t), some (.ref oa), some (.ref p), some (.int lo), some (.ref wa), some (.int (hi - lo)), some (.ref st), some (.ref lq), some (.ref D2), some (.ref tq), v14, v15, v16] ∧ Same H18 H', ?_, ?_⟩
    · refine ⟨_, rfl, _, rfl, (by show 2 ≤ sizeLine; decide), fun t2 ht2 => ?_⟩
      have s19 := same_new (o := .tup [V.str "starts", V.ref D2]) ht2
      have hi2 : InfV (upd H18 t2 (.tup [V.str "starts", V.ref D2])) t2 (.inr (dueL bs es)) := ⟨D2, us, upd_same, s19 _ _ hD18, tp18.same s19⟩
      have htq2 := InfV.same s19 htq
      rw [ebk] at htq2
      generalize upd H18 t2 (.tup [V.str "starts", V.ref D2]) = H19 at hi2 s19 htq2 ⊢
      refine ⟨_, _, infD_dp htq2, infD_dp hi2, infD_shaped _, infD_shaped _, _, rfl, iteFb (by rw [infD_eqv, decide_eq_true rfl]; rfl) ?_⟩
      refine ⟨_, rfl, _, rfl, _, rfl, _, rfl, oa, wa, lq, planO gs tl, lo, hi, ws, es, rfl, s19 _ _ oa18, s19 _ _ hw18, s19 _ _ hq18, tw18.same s19, ok.asc, ok.l500, Nat.le_trans plan_len (by decide), by omega, by omega, by omega, by omega, fun q2 H20 S20 hq2 => ?_⟩
      have htq3 := InfV.same S20 (InfV.same s19 htq)
      rw [ewk] at htq3
      refine ⟨_, _, infD_dp htq3, infD_dp hq2, infD_shaped _, infD_shaped _, _, rfl, iteFb (by rw [infD_eqv, decide_eq_true rfl]; rfl) ?_⟩
      exact ⟨by rw [hlo]; rfl, s19.trans S20⟩
    rintro _ H20 ⟨rfl, S20⟩
    clear K18 hL18 hw18 hq18 tw18 oa18 hD18 tp18 R18 keep ewk
    rw [ebk] at htq
    obtain ⟨l, ws2, h1, h2, h3⟩ := htq
    have hln := hnew _ l h1
    have hl3 : ws2.length ≤ 500 := by
      rw [h3.1]
      have e1 : (dueL bs es).length ≤ es.length := by
        unfold dueL
        rw [List.length_map]
        exact List.length_filter_le ..
      have := ok.l500
      omega
    refine ⟨_, rfl, tq, _, _, .ref l, rfl, rfl, SqT.of (S20 _ _ h1), atI_nat (j := 1) rfl, .inl ⟨rfl, _, SqL.of (S20 _ _ h2)⟩, l, _, _, rfl, rfl, S20 _ _ h2, by rw [List.length_map]; exact small1000 (by omega), ?_⟩
    have S21 : Same H17 (upd H20 l (.lst (ws2.map V.ref ++ [V.non]))) := fun b u e => by
      rw [upd_ne (ne_of_none e hln)]
      exact S20 _ _ (S18 _ _ e)
    generalize upd H20 l (.lst (ws2.map V.ref ++ [V.non])) = H21 at S21 ⊢
    clear S20 h1 h2 h3 hln S18 hnew
    have K21 := K17.same S21
    have hL21 := S21 _ _ hL17
    have hw21 := S21 _ _ hw17
    have hq21 := S21 _ _ hq17
    have tw21 := tw17.same S21
    have oa21 := S21 _ _ oa17
    have hD21 := S21 _ _ hD17
    have tp21 := tp.same S21
    have R21 := R17.mono S21
    clear K17 hL17 hw17 hq17 tw17 oa17 hD17 tp R17 S21
    -- once more
    refine ⟨fun σ H' => σ = [some (.ref sc), some (.int c), some (.ref a), some (.ref g), some (.ref t), some (.ref oa), some (.ref p), some (.int lo), some (.ref wa), some (.int (hi - lo)), some (.ref st), some (.ref lq), some (.ref D2), some (.ref tq), v14, v15, v16] ∧ Same H21 H', ?_, ?_⟩
    · refine ⟨_, rfl, _, rfl, _, rfl, p, g2, t, o, wa, lq, gs, tl, lo, hi, ws, es, m, rfl, K21.R, hw21, by omega, hq21, tw21, ok, hd0, hm, fun t3 H22 S22 ht3 _ => ?_⟩
      rw [ebk] at ht3
      refine ⟨_, rfl, (by show 2 ≤ sizeLine; decide), fun t2 ht2 => ?_⟩
      have s23 := same_new (o := .tup [V.str "starts", V.ref D2]) ht2
      have hi2 : InfV (upd H22 t2 (.tup [V.str "starts", V.ref D2])) t2 (.inr (dueL bs es)) := ⟨D2, us, upd_same, s23 _ _ (S22 _ _ hD21), (tp21.same S22).same s23⟩
      have ht4 := InfV.same s23 ht3
      generalize upd H22 t2 (.tup [V.str "starts", V.ref D2]) = H23 at hi2 s23 ht4 ⊢
      refine ⟨_, _, infD_dp ht4, infD_dp hi2, infD_shaped _, infD_shaped _, _, rfl, iteFb (by rw [infD_eqv, decide_eq_true rfl]; rfl) ?_⟩
      exact ⟨rfl, S22.trans s23⟩
    rintro _ H24 ⟨rfl, S24⟩
    have K24 := K21.same S24
    have hL24 := S24 _ _ hL21
    have hw24 := S24 _ _ hw21
    have hq24 := S24 _ _ hq21
    have tw24 := tw21.same S24
    have oa24 := S24 _ _ oa21
    have R24 := (R21.mono S24).le (show 40 ≤ 60 + 4 * 0 by decide)
    clear K21 hL21 hw21 hq21 tw21 oa21 hD21 tp21 R21 S24 ebk NA hss hasc hb hb2 nst
    -- five changes
    refine ⟨5, rfl, by decide, by decide, for_range (n := 5) (fun j σ H' => ∃ (v14 : Option V) (lq : Addr) (ws : List Addr) (es : List (Int × Int)), σ = [some (.ref sc), some (.int c), some (.ref a), some (.ref g), some (.ref t), some (.ref oa), some (.ref p), some (.int lo), some (.ref wa), some (.int (hi - lo)), some (.ref st), some (.ref lq), some (.ref D2), some (.ref tq), v14, v15, v16] ∧
      RK C H' a p g2 t o gs tl ∧ H' L = some (.lst (cs.map V.int)) ∧ H' wa = some (.tup [.int lo, .int hi]) ∧ lq ≠ a ∧ H' lq = some (.lst (ws.map V.ref)) ∧ TupsI H' ws es ∧ LogOk es lo hi ∧ H' oa = some (.lst ((planO gs tl).map V.int)) ∧ Src H' a (60 + 4 * j)) ⟨_, lq, ws, es, rfl, K24, hL24, hw24, nlq, hq24, tw24, ok, oa24, R24⟩ ?_ (fun σ H' z => ?_)⟩
    rotate_left
    · obtain ⟨v14, lq, ws, es, rfl, _, hL, _⟩ := z
      exact ⟨⟨_, _, _, _, _, _, _, _, _, _, _, _, _, _, _, _, rfl⟩, hL⟩
    clear K24 hL24 hw24 hq24 tw24 oa24 R24 ok nlq
    rintro j σ H25 hj ⟨v14, lq, ws, es, rfl, K25, hL25, hw25, nlq, hq25, tw25, ok, oa25, R25⟩
    dsimp only [gName]
    refine ⟨_, rfl, _, rfl, _, rfl, a, wa, lq, ws, es, lo, hi, 60 + 4 * j, rfl, R25, by omega, nlq, hw25, hq25, tw25, ok, by omega, by omega, fun lq2 ws3 es2 H26 nlq2 hq26 tw26 ok2 kx26 R26 => ?_⟩
    have K26 := K25.kx kx26
    have hL26 := kx26 _ _ nLa hL25
    have hw26 := kx26 _ _ nwa hw25
    have oa26 := kx26 _ _ noa oa25
    clear K25 hL25 hw25 hq25 tw25 oa25 R25 kx26 ok nlq
    have ewk := near_walk okG okT (by omega) (by omega) ok2 hm
    refine ⟨_, rfl, _, rfl, _, rfl, p, g2, t, o, wa, lq2, gs, tl, lo, hi, ws3, es2, m, rfl, K26.R, hw26, by omega, hq26, tw26, ok2, hd0, hm, fun t3 H27 S27 ht3 _ => ?_⟩
    rw [ewk] at ht3
    refine ⟨_, rfl, _, rfl, _, rfl, oa, wa, lq2, planO gs tl, lo, hi, ws3, es2, rfl, S27 _ _ oa26, S27 _ _ hw26, S27 _ _ hq26, tw26.same S27, ok2.asc, ok2.l500, Nat.le_trans plan_len (by decide), by omega, by omega, by omega, by omega, fun q2 H28 S28 hq2 => ?_⟩
    have S29 := S27.trans S28
    refine ⟨_, _, infD_dp (InfV.same S28 ht3), infD_dp hq2, infD_shaped _, infD_shaped _, _, rfl, iteFb (by rw [infD_eqv, decide_eq_true rfl]; rfl) ?_⟩
    exact ⟨_, lq2, ws3, es2, rfl, K26.same S29, S29 _ _ hL26, S29 _ _ hw26, nlq2, S29 _ _ hq26, tw26.same S29, ok2, S29 _ _ oa26, (R26.mono S29).le (by omega)⟩
end
end RS
namespace RS
open PySem L2
/-! ### what the top has written -/
theorem all_mk {l : PySem.W.OpenLaw} {w : World} {K : PySem.W.Frag} {h : Heap} {mg : Str → Option Value} {fa : Addr}  (X : K.In h) (G : h.Ns mainGlobals mg) (hfa : mg "law" = some (.ref fa)) (hlong : ∃ t, mg "_LONGEST_GAP" = some (.int 1000000000000 t))
    {fa0 : Addr} {oda0 ana0 : Option Addr} {sla0 : Array (Option Value)} {oca0 kVa0 dca0 pma0 cta0 : Value}
    {cda0 : Value}
    {fa1 : Addr} {oda1 ana1 : Option Addr} {sla1 : Array (Option Value)} {oca1 kVa1 dca1 pma1 cta1 : Value}
    {cda1 : Value}
    {fa2 : Addr} {oda2 ana2 : Option Addr} {sla2 : Array (Option Value)} {oca2 kVa2 dca2 pma2 cta2 : Value}
    {cda2 : Value}
    {fa3 : Addr} {oda3 ana3 : Option Addr} {sla3 : Array (Option Value)} {oca3 kVa3 dca3 pma3 cta3 : Value}
    {cda3 : Value}
    {fa4 : Addr} {oda4 ana4 : Option Addr} {sla4 : Array (Option Value)} {oca4 kVa4 dca4 pma4 cta4 : Value}
    {cda4 : Value}
    {fa5 : Addr} {oda5 ana5 : Option Addr} {sla5 : Array (Option Value)} {oca5 kVa5 dca5 pma5 cta5 : Value}
    {cda5 : Value}
    {fr6 : Addr} {odr6 anr6 : Option Addr} {slr6 : Array (Option Value)} {ocr6 kVr6 dcr6 pmr6 ctr6 : Value}
    {cdr6 : Value}
    {fr7 : Addr} {odr7 anr7 : Option Addr} {slr7 : Array (Option Value)} {ocr7 kVr7 dcr7 pmr7 ctr7 : Value}
    {cdr7 : Value}
    {fr8 : Addr} {odr8 anr8 : Option Addr} {slr8 : Array (Option Value)} {ocr8 kVr8 dcr8 pmr8 ctr8 : Value}
    {cdr8 : Value}
    {fr9 : Addr} {odr9 anr9 : Option Addr} {slr9 : Array (Option Value)} {ocr9 kVr9 dcr9 pmr9 ctr9 : Value}
    {cdr9 : Value}
    {fr13 : Addr} {odr13 anr13 : Option Addr} {slr13 : Array (Option Value)} {ocr13 kVr13 dcr13 pmr13 ctr13 : Value}
    {cdr13 : Value}
    {fa16 : Addr} {oda16 ana16 : Option Addr} {sla16 : Array (Option Value)} {oca16 kVa16 dca16 pma16 cta16 : Value}
    {cda16 : Value}
    {fa17 : Addr} {oda17 ana17 : Option Addr} {sla17 : Array (Option Value)} {oca17 kVa17 dca17 pma17 cta17 : Value}
    {cda17 : Value}
    {fa18 : Addr} {oda18 ana18 : Option Addr} {sla18 : Array (Option Value)} {oca18 kVa18 dca18 pma18 cta18 : Value}
    {cda18 : Value}
    {fa19 : Addr} {oda19 ana19 : Option Addr} {sla19 : Array (Option Value)} {oca19 kVa19 dca19 pma19 cta19 : Value}
    {cda19 : Value}
    {fa20 : Addr} {oda20 ana20 : Option Addr} {sla20 : Array (Option Value)} {oca20 kVa20 dca20 pma20 cta20 : Value}
    {cda20 : Value}
    {fa21 : Addr} {oda21 ana21 : Option Addr} {sla21 : Array (Option Value)} {oca21 kVa21 dca21 pma21 cta21 : Value}
    {cda21 : Value}
    {fr22 : Addr} {odr22 anr22 : Option Addr} {slr22 : Array (Option Value)} {ocr22 kVr22 dcr22 pmr22 ctr22 : Value}
    {cdr22 : Value}
    {fr23 : Addr} {odr23 anr23 : Option Addr} {slr23 : Array (Option Value)} {ocr23 kVr23 dcr23 pmr23 ctr23 : Value}
    {cdr23 : Value}
    {fr24 : Addr} {odr24 anr24 : Option Addr} {slr24 : Array (Option Value)} {ocr24 kVr24 dcr24 pmr24 ctr24 : Value}
    {cdr24 : Value}
    {fr25 : Addr} {odr25 anr25 : Option Addr} {slr25 : Array (Option Value)} {ocr25 kVr25 dcr25 pmr25 ctr25 : Value}
    {cdr25 : Value}
    {fa26 : Addr} {oda26 ana26 : Option Addr} {sla26 : Array (Option Value)} {oca26 kVa26 dca26 pma26 cta26 : Value}
    {cda26 : Value}
    {fa27 : Addr} {oda27 ana27 : Option Addr} {sla27 : Array (Option Value)} {oca27 kVa27 dca27 pma27 cta27 : Value}
    {cda27 : Value}
    {fr28 : Addr} {odr28 anr28 : Option Addr} {slr28 : Array (Option Value)} {ocr28 kVr28 dcr28 pmr28 ctr28 : Value}
    {cdr28 : Value}
    {fa29 : Addr} {oda29 ana29 : Option Addr} {sla29 : Array (Option Value)} {oca29 kVa29 dca29 pma29 cta29 : Value}
    {cda29 : Value}
    {fa30 : Addr} {oda30 ana30 : Option Addr} {sla30 : Array (Option Value)} {oca30 kVa30 dca30 pma30 cta30 : Value}
    {cda30 : Value}
    {fa31 : Addr} {oda31 ana31 : Option Addr} {sla31 : Array (Option Value)} {oca31 kVa31 dca31 pma31 cta31 : Value}
    {cda31 : Value}
    {fa32 : Addr} {oda32 ana32 : Option Addr} {sla32 : Array (Option Value)} {oca32 kVa32 dca32 pma32 cta32 : Value}
    {cda32 : Value}
    {fa33 : Addr} {oda33 ana33 : Option Addr} {sla33 : Array (Option Value)} {oca33 kVa33 dca33 pma33 cta33 : Value}
    {cda33 : Value}
    {fa34 : Addr} {oda34 ana34 : Option Addr} {sla34 : Array (Option Value)} {oca34 kVa34 dca34 pma34 cta34 : Value}
    {cda34 : Value}
    {fa35 : Addr} {oda35 ana35 : Option Addr} {sla35 : Array (Option Value)} {oca35 kVa35 dca35 pma35 cta35 : Value}
    {cda35 : Value}
    {fa36 : Addr} {oda36 ana36 : Option Addr} {sla36 : Array (Option Value)} {oca36 kVa36 dca36 pma36 cta36 : Value}
    {cda36 : Value}
    {fa37 : Addr} {oda37 ana37 : Option Addr} {sla37 : Array (Option Value)} {oca37 kVa37 dca37 pma37 cta37 : Value}
    {cda37 : Value}
    {fa38 : Addr} {oda38 ana38 : Option Addr} {sla38 : Array (Option Value)} {oca38 kVa38 dca38 pma38 cta38 : Value}
    {cda38 : Value}
    {C : Addr}
    {tM : Tok}
    {tF : Tok}
    {tL : Tok}
    {tE : Tok}
    (Aa0 : PySem.W.nsIn K mainGlobals "law" = some (some (.ref fa0)))
    (La0 : K.lookup fa0 = some ⟨oca0, oda0, .func (PySem.W.fnOf "law" "law" (defArgs s_law) (defBody s_law) (defScope s_law) .none kVa0 dca0 pma0 ana0 cda0 cta0), sla0⟩) (Ca0 : PySem.W.codeIn K cda0 "law" = true) (Ka0 : PySem.W.keepIn K (.ref fa0) = true)
    (Aa1 : PySem.W.nsIn K mainGlobals "is_integer" = some (some (.ref fa1)))
    (La1 : K.lookup fa1 = some ⟨oca1, oda1, .func (PySem.W.fnOf "is_integer" "is_integer" (defArgs s_is_integer) (defBody s_is_integer) (defScope s_is_integer) .none kVa1 dca1 pma1 ana1 cda1 cta1), sla1⟩) (Ca1 : PySem.W.codeIn K cda1 "is_integer" = true) (Ka1 : PySem.W.keepIn K (.ref fa1) = true)
    (Aa2 : PySem.W.nsIn K mainGlobals "are_gaps" = some (some (.ref fa2)))
    (La2 : K.lookup fa2 = some ⟨oca2, oda2, .func (PySem.W.fnOf "are_gaps" "are_gaps" (defArgs s_are_gaps) (defBody s_are_gaps) (defScope s_are_gaps) .none kVa2 dca2 pma2 ana2 cda2 cta2), sla2⟩) (Ca2 : PySem.W.codeIn K cda2 "are_gaps" = true) (Ka2 : PySem.W.keepIn K (.ref fa2) = true)
    (Aa3 : PySem.W.nsIn K mainGlobals "_is_tail" = some (some (.ref fa3)))
    (La3 : K.lookup fa3 = some ⟨oca3, oda3, .func (PySem.W.fnOf "_is_tail" "_is_tail" (defArgs s_is_tail) (defBody s_is_tail) (defScope s_is_tail) .none kVa3 dca3 pma3 ana3 cda3 cta3), sla3⟩) (Ca3 : PySem.W.codeIn K cda3 "_is_tail" = true) (Ka3 : PySem.W.keepIn K (.ref fa3) = true)
    (Aa4 : PySem.W.nsIn K mainGlobals "sums" = some (some (.ref fa4)))
    (La4 : K.lookup fa4 = some ⟨oca4, oda4, .func (PySem.W.fnOf "sums" "sums" (defArgs s_sums) (defBody s_sums) (defScope s_sums) .none kVa4 dca4 pma4 ana4 cda4 cta4), sla4⟩) (Ca4 : PySem.W.codeIn K cda4 "sums" = true) (Ka4 : PySem.W.keepIn K (.ref fa4) = true)
    (Aa5 : PySem.W.nsIn K mainGlobals "_power" = some (some (.ref fa5)))
    (La5 : K.lookup fa5 = some ⟨oca5, oda5, .func (PySem.W.fnOf "_power" "_power" (defArgs s_power) (defBody s_power) (defScope s_power) .none kVa5 dca5 pma5 ana5 cda5 cta5), sla5⟩) (Ca5 : PySem.W.codeIn K cda5 "_power" = true) (Ka5 : PySem.W.keepIn K (.ref fa5) = true)
    (Ar6 : PySem.W.findIn K (.ref C) "__init__" = some (some (.ref fr6))) (Ir6 : PySem.W.isFn K (.ref fr6) = true)
    (Lr6 : K.lookup fr6 = some ⟨ocr6, odr6, .func (PySem.W.fnOf "__init__" "Rule.__init__" (defArgs s_Rule_ddinitdd) (defBody s_Rule_ddinitdd) (defScope s_Rule_ddinitdd) .none kVr6 dcr6 pmr6 anr6 cdr6 ctr6), slr6⟩) (Cr6 : PySem.W.codeIn K cdr6 "Rule.__init__" = true) (Kr6 : PySem.W.keepIn K (.ref fr6) = true)
    (Ar7 : PySem.W.findIn K (.ref C) "attempts" = some (some (.ref fr7))) (Ir7 : PySem.W.isFn K (.ref fr7) = true)
    (Lr7 : K.lookup fr7 = some ⟨ocr7, odr7, .func (PySem.W.fnOf "attempts" "Rule.attempts" (defArgs s_Rule_attempts) (defBody s_Rule_attempts) (defScope s_Rule_attempts) .none kVr7 dcr7 pmr7 anr7 cdr7 ctr7), slr7⟩) (Cr7 : PySem.W.codeIn K cdr7 "Rule.attempts" = true) (Kr7 : PySem.W.keepIn K (.ref fr7) = true)
    (Ar8 : PySem.W.findIn K (.ref C) "first_repeating" = some (some (.ref fr8))) (Ir8 : PySem.W.isFn K (.ref fr8) = true)
    (Lr8 : K.lookup fr8 = some ⟨ocr8, odr8, .func (PySem.W.fnOf "first_repeating" "Rule.first_repeating" (defArgs s_Rule_first_repeating) (defBody s_Rule_first_repeating) (defScope s_Rule_first_repeating) .none kVr8 dcr8 pmr8 anr8 cdr8 ctr8), slr8⟩) (Cr8 : PySem.W.codeIn K cdr8 "Rule.first_repeating" = true) (Kr8 : PySem.W.keepIn K (.ref fr8) = true)
    (Ar9 : PySem.W.findIn K (.ref C) "period" = some (some (.ref fr9))) (Ir9 : PySem.W.isFn K (.ref fr9) = true)
    (Lr9 : K.lookup fr9 = some ⟨ocr9, odr9, .func (PySem.W.fnOf "period" "Rule.period" (defArgs s_Rule_period) (defBody s_Rule_period) (defScope s_Rule_period) .none kVr9 dcr9 pmr9 anr9 cdr9 ctr9), slr9⟩) (Cr9 : PySem.W.codeIn K cdr9 "Rule.period" = true) (Kr9 : PySem.W.keepIn K (.ref fr9) = true)
    (Ar13 : PySem.W.findIn K (.ref C) "_offset_of" = some (some (.ref fr13))) (Ir13 : PySem.W.isFn K (.ref fr13) = true)
    (Lr13 : K.lookup fr13 = some ⟨ocr13, odr13, .func (PySem.W.fnOf "_offset_of" "Rule._offset_of" (defArgs s_Rule_offset_of) (defBody s_Rule_offset_of) (defScope s_Rule_offset_of) .none kVr13 dcr13 pmr13 anr13 cdr13 ctr13), slr13⟩) (Cr13 : PySem.W.codeIn K cdr13 "Rule._offset_of" = true) (Kr13 : PySem.W.keepIn K (.ref fr13) = true)
    (Aa16 : PySem.W.nsIn K mainGlobals "_law_source_of" = some (some (.ref fa16)))
    (La16 : K.lookup fa16 = some ⟨oca16, oda16, .func (PySem.W.fnOf "_law_source_of" "_law_source_of" (defArgs s_law_source_of) (defBody s_law_source_of) (defScope s_law_source_of) .none kVa16 dca16 pma16 ana16 cda16 cta16), sla16⟩) (Ca16 : PySem.W.codeIn K cda16 "_law_source_of" = true) (Ka16 : PySem.W.keepIn K (.ref fa16) = true)
    (Aa17 : PySem.W.nsIn K mainGlobals "_law_draw" = some (some (.ref fa17)))
    (La17 : K.lookup fa17 = some ⟨oca17, oda17, .func (PySem.W.fnOf "_law_draw" "_law_draw" (defArgs s_law_draw) (defBody s_law_draw) (defScope s_law_draw) .none kVa17 dca17 pma17 ana17 cda17 cta17), sla17⟩) (Ca17 : PySem.W.codeIn K cda17 "_law_draw" = true) (Ka17 : PySem.W.keepIn K (.ref fa17) = true)
    (Aa18 : PySem.W.nsIn K mainGlobals "_law_choice" = some (some (.ref fa18)))
    (La18 : K.lookup fa18 = some ⟨oca18, oda18, .func (PySem.W.fnOf "_law_choice" "_law_choice" (defArgs s_law_choice) (defBody s_law_choice) (defScope s_law_choice) .none kVa18 dca18 pma18 ana18 cda18 cta18), sla18⟩) (Ca18 : PySem.W.codeIn K cda18 "_law_choice" = true) (Ka18 : PySem.W.keepIn K (.ref fa18) = true)
    (Aa19 : PySem.W.nsIn K mainGlobals "_law_cell_at" = some (some (.ref fa19)))
    (La19 : K.lookup fa19 = some ⟨oca19, oda19, .func (PySem.W.fnOf "_law_cell_at" "_law_cell_at" (defArgs s_law_cell_at) (defBody s_law_cell_at) (defScope s_law_cell_at) .none kVa19 dca19 pma19 ana19 cda19 cta19), sla19⟩) (Ca19 : PySem.W.codeIn K cda19 "_law_cell_at" = true) (Ka19 : PySem.W.keepIn K (.ref fa19) = true)
    (Aa20 : PySem.W.nsIn K mainGlobals "_law_tail" = some (some (.ref fa20)))
    (La20 : K.lookup fa20 = some ⟨oca20, oda20, .func (PySem.W.fnOf "_law_tail" "_law_tail" (defArgs s_law_tail) (defBody s_law_tail) (defScope s_law_tail) .none kVa20 dca20 pma20 ana20 cda20 cta20), sla20⟩) (Ca20 : PySem.W.codeIn K cda20 "_law_tail" = true) (Ka20 : PySem.W.keepIn K (.ref fa20) = true)
    (Aa21 : PySem.W.nsIn K mainGlobals "_first_at_least" = some (some (.ref fa21)))
    (La21 : K.lookup fa21 = some ⟨oca21, oda21, .func (PySem.W.fnOf "_first_at_least" "_first_at_least" (defArgs s_first_at_least) (defBody s_first_at_least) (defScope s_first_at_least) .none kVa21 dca21 pma21 ana21 cda21 cta21), sla21⟩) (Ca21 : PySem.W.codeIn K cda21 "_first_at_least" = true) (Ka21 : PySem.W.keepIn K (.ref fa21) = true)
    (Ar22 : PySem.W.findIn K (.ref C) "_surely_short" = some (some (.ref fr22))) (Ir22 : PySem.W.isFn K (.ref fr22) = true)
    (Lr22 : K.lookup fr22 = some ⟨ocr22, odr22, .func (PySem.W.fnOf "_surely_short" "Rule._surely_short" (defArgs s_Rule_surely_short) (defBody s_Rule_surely_short) (defScope s_Rule_surely_short) .none kVr22 dcr22 pmr22 anr22 cdr22 ctr22), slr22⟩) (Cr22 : PySem.W.codeIn K cdr22 "Rule._surely_short" = true) (Kr22 : PySem.W.keepIn K (.ref fr22) = true)
    (Ar23 : PySem.W.findIn K (.ref C) "_first_growing" = some (some (.ref fr23))) (Ir23 : PySem.W.isFn K (.ref fr23) = true)
    (Lr23 : K.lookup fr23 = some ⟨ocr23, odr23, .func (PySem.W.fnOf "_first_growing" "Rule._first_growing" (defArgs s_Rule_first_growing) (defBody s_Rule_first_growing) (defScope s_Rule_first_growing) .none kVr23 dcr23 pmr23 anr23 cdr23 ctr23), slr23⟩) (Cr23 : PySem.W.codeIn K cdr23 "Rule._first_growing" = true) (Kr23 : PySem.W.keepIn K (.ref fr23) = true)
    (Ar24 : PySem.W.findIn K (.ref C) "_first_repeated" = some (some (.ref fr24))) (Ir24 : PySem.W.isFn K (.ref fr24) = true)
    (Lr24 : K.lookup fr24 = some ⟨ocr24, odr24, .func (PySem.W.fnOf "_first_repeated" "Rule._first_repeated" (defArgs s_Rule_first_repeated) (defBody s_Rule_first_repeated) (defScope s_Rule_first_repeated) .none kVr24 dcr24 pmr24 anr24 cdr24 ctr24), slr24⟩) (Cr24 : PySem.W.codeIn K cdr24 "Rule._first_repeated" = true) (Kr24 : PySem.W.keepIn K (.ref fr24) = true)
    (Ar25 : PySem.W.findIn K (.ref C) "first_from" = some (some (.ref fr25))) (Ir25 : PySem.W.isFn K (.ref fr25) = true)
    (Lr25 : K.lookup fr25 = some ⟨ocr25, odr25, .func (PySem.W.fnOf "first_from" "Rule.first_from" (defArgs s_Rule_first_from) (defBody s_Rule_first_from) (defScope s_Rule_first_from) .none kVr25 dcr25 pmr25 anr25 cdr25 ctr25), slr25⟩) (Cr25 : PySem.W.codeIn K cdr25 "Rule.first_from" = true) (Kr25 : PySem.W.keepIn K (.ref fr25) = true)
    (Aa26 : PySem.W.nsIn K mainGlobals "_law_offsets" = some (some (.ref fa26)))
    (La26 : K.lookup fa26 = some ⟨oca26, oda26, .func (PySem.W.fnOf "_law_offsets" "_law_offsets" (defArgs s_law_offsets) (defBody s_law_offsets) (defScope s_law_offsets) .none kVa26 dca26 pma26 ana26 cda26 cta26), sla26⟩) (Ca26 : PySem.W.codeIn K cda26 "_law_offsets" = true) (Ka26 : PySem.W.keepIn K (.ref fa26) = true)
    (Aa27 : PySem.W.nsIn K mainGlobals "attempts_before" = some (some (.ref fa27)))
    (La27 : K.lookup fa27 = some ⟨oca27, oda27, .func (PySem.W.fnOf "attempts_before" "attempts_before" (defArgs s_attempts_before) (defBody s_attempts_before) (defScope s_attempts_before) .none kVa27 dca27 pma27 ana27 cda27 cta27), sla27⟩) (Ca27 : PySem.W.codeIn K cda27 "attempts_before" = true) (Ka27 : PySem.W.keepIn K (.ref fa27) = true)
    (Ar28 : PySem.W.findIn K (.ref C) "offsets_between" = some (some (.ref fr28))) (Ir28 : PySem.W.isFn K (.ref fr28) = true)
    (Lr28 : K.lookup fr28 = some ⟨ocr28, odr28, .func (PySem.W.fnOf "offsets_between" "Rule.offsets_between" (defArgs s_Rule_offsets_between) (defBody s_Rule_offsets_between) (defScope s_Rule_offsets_between) .none kVr28 dcr28 pmr28 anr28 cdr28 ctr28), slr28⟩) (Cr28 : PySem.W.codeIn K cdr28 "Rule.offsets_between" = true) (Kr28 : PySem.W.keepIn K (.ref fr28) = true)
    (Aa29 : PySem.W.nsIn K mainGlobals "are_two_integers" = some (some (.ref fa29)))
    (La29 : K.lookup fa29 = some ⟨oca29, oda29, .func (PySem.W.fnOf "are_two_integers" "are_two_integers" (defArgs s_are_two_integers) (defBody s_are_two_integers) (defScope s_are_two_integers) .none kVa29 dca29 pma29 ana29 cda29 cta29), sla29⟩) (Ca29 : PySem.W.codeIn K cda29 "are_two_integers" = true) (Ka29 : PySem.W.keepIn K (.ref fa29) = true)
    (Aa30 : PySem.W.nsIn K mainGlobals "are_slots" = some (some (.ref fa30)))
    (La30 : K.lookup fa30 = some ⟨oca30, oda30, .func (PySem.W.fnOf "are_slots" "are_slots" (defArgs s_are_slots) (defBody s_are_slots) (defScope s_are_slots) .none kVa30 dca30 pma30 ana30 cda30 cta30), sla30⟩) (Ca30 : PySem.W.codeIn K cda30 "are_slots" = true) (Ka30 : PySem.W.keepIn K (.ref fa30) = true)
    (Aa31 : PySem.W.nsIn K mainGlobals "_check_window" = some (some (.ref fa31)))
    (La31 : K.lookup fa31 = some ⟨oca31, oda31, .func (PySem.W.fnOf "_check_window" "_check_window" (defArgs s_check_window) (defBody s_check_window) (defScope s_check_window) .none kVa31 dca31 pma31 ana31 cda31 cta31), sla31⟩) (Ca31 : PySem.W.codeIn K cda31 "_check_window" = true) (Ka31 : PySem.W.keepIn K (.ref fa31) = true)
    (Aa32 : PySem.W.nsIn K mainGlobals "_check_log" = some (some (.ref fa32)))
    (La32 : K.lookup fa32 = some ⟨oca32, oda32, .func (PySem.W.fnOf "_check_log" "_check_log" (defArgs s_check_log) (defBody s_check_log) (defScope s_check_log) .none kVa32 dca32 pma32 ana32 cda32 cta32), sla32⟩) (Ca32 : PySem.W.codeIn K cda32 "_check_log" = true) (Ka32 : PySem.W.keepIn K (.ref fa32) = true)
    (Aa33 : PySem.W.nsIn K mainGlobals "_up_to_unlogged" = some (some (.ref fa33)))
    (La33 : K.lookup fa33 = some ⟨oca33, oda33, .func (PySem.W.fnOf "_up_to_unlogged" "_up_to_unlogged" (defArgs s_up_to_unlogged) (defBody s_up_to_unlogged) (defScope s_up_to_unlogged) .none kVa33 dca33 pma33 ana33 cda33 cta33), sla33⟩) (Ca33 : PySem.W.codeIn K cda33 "_up_to_unlogged" = true) (Ka33 : PySem.W.keepIn K (.ref fa33) = true)
    (Aa34 : PySem.W.nsIn K mainGlobals "infer_starts" = some (some (.ref fa34)))
    (La34 : K.lookup fa34 = some ⟨oca34, oda34, .func (PySem.W.fnOf "infer_starts" "infer_starts" (defArgs s_infer_starts) (defBody s_infer_starts) (defScope s_infer_starts) .none kVa34 dca34 pma34 ana34 cda34 cta34), sla34⟩) (Ca34 : PySem.W.codeIn K cda34 "infer_starts" = true) (Ka34 : PySem.W.keepIn K (.ref fa34) = true)
    (Aa35 : PySem.W.nsIn K mainGlobals "_law_counted" = some (some (.ref fa35)))
    (La35 : K.lookup fa35 = some ⟨oca35, oda35, .func (PySem.W.fnOf "_law_counted" "_law_counted" (defArgs s_law_counted) (defBody s_law_counted) (defScope s_law_counted) .none kVa35 dca35 pma35 ana35 cda35 cta35), sla35⟩) (Ca35 : PySem.W.codeIn K cda35 "_law_counted" = true) (Ka35 : PySem.W.keepIn K (.ref fa35) = true)
    (Aa36 : PySem.W.nsIn K mainGlobals "_law_plan" = some (some (.ref fa36)))
    (La36 : K.lookup fa36 = some ⟨oca36, oda36, .func (PySem.W.fnOf "_law_plan" "_law_plan" (defArgs s_law_plan) (defBody s_law_plan) (defScope s_law_plan) .none kVa36 dca36 pma36 ana36 cda36 cta36), sla36⟩) (Ca36 : PySem.W.codeIn K cda36 "_law_plan" = true) (Ka36 : PySem.W.keepIn K (.ref fa36) = true)
    (Aa37 : PySem.W.nsIn K mainGlobals "_law_walked" = some (some (.ref fa37)))
    (La37 : K.lookup fa37 = some ⟨oca37, oda37, .func (PySem.W.fnOf "_law_walked" "_law_walked" (defArgs s_law_walked) (defBody s_law_walked) (defScope s_law_walked) .none kVa37 dca37 pma37 ana37 cda37 cta37), sla37⟩) (Ca37 : PySem.W.codeIn K cda37 "_law_walked" = true) (Ka37 : PySem.W.keepIn K (.ref fa37) = true)
    (Aa38 : PySem.W.nsIn K mainGlobals "_law_changed" = some (some (.ref fa38)))
    (La38 : K.lookup fa38 = some ⟨oca38, oda38, .func (PySem.W.fnOf "_law_changed" "_law_changed" (defArgs s_law_changed) (defBody s_law_changed) (defScope s_law_changed) .none kVa38 dca38 pma38 ana38 cda38 cta38), sla38⟩) (Ca38 : PySem.W.codeIn K cda38 "_law_changed" = true) (Ka38 : PySem.W.keepIn K (.ref fa38) = true)
    (aC : PySem.W.nsIn K mainGlobals "Rule" = some (some (.ref C)))
    (pg : PySem.W.plainGet K C Str.empty = true)
    (hd : PySem.W.hasDictIn K C = true)
    (po : PySem.W.plainOver K C = true)
    (sa : PySem.W.findIn K (.ref C) "__setattr__" = some (some (.builtin "object.__setattr__")))
    (mk : PySem.W.makesIn K C = true)
    (kc : PySem.W.keepIn K (.ref C) = true)
    (n0 : PySem.W.findIn K (.ref C) "_gaps" = some none)
    (n1 : PySem.W.findIn K (.ref C) "_tail" = some none)
    (n2 : PySem.W.findIn K (.ref C) "_offsets" = some none)
    (z_len : PySem.W.nsIn K mainGlobals "len" = some none)
    (z_isinstance : PySem.W.nsIn K mainGlobals "isinstance" = some none)
    (z_int : PySem.W.nsIn K mainGlobals "int" = some none)
    (z_bool : PySem.W.nsIn K mainGlobals "bool" = some none)
    (z_list : PySem.W.nsIn K mainGlobals "list" = some none)
    (z_tuple : PySem.W.nsIn K mainGlobals "tuple" = some none)
    (z_str : PySem.W.nsIn K mainGlobals "str" = some none)
    (z_all : PySem.W.nsIn K mainGlobals "all" = some none)
    (z_range : PySem.W.nsIn K mainGlobals "range" = some none)
    (z_divmod : PySem.W.nsIn K mainGlobals "divmod" = some none)
    (z_sum : PySem.W.nsIn K mainGlobals "sum" = some none)
    (z_max : PySem.W.nsIn K mainGlobals "max" = some none)
    (z_min : PySem.W.nsIn K mainGlobals "min" = some none)
    (z_sorted : PySem.W.nsIn K mainGlobals "sorted" = some none)
    (z_set : PySem.W.nsIn K mainGlobals "set" = some none)
    (z_any : PySem.W.nsIn K mainGlobals "any" = some none)
    (z_enumerate : PySem.W.nsIn K mainGlobals "enumerate" = some none)
    (z_dict : PySem.W.nsIn K mainGlobals "dict" = some none)
    (c_tM : PySem.W.nsIn K mainGlobals "_MOST_GAPS" = some (some (.int 20 tM)))
    (c_tF : PySem.W.nsIn K mainGlobals "_GREATEST_FACTOR" = some (some (.int 1000 tF)))
    (c_tL : PySem.W.nsIn K mainGlobals "LAST_GROWING" = some (some (.int 1000 tL)))
    (c_tE : PySem.W.nsIn K mainGlobals "_MOST_ENTRIES" = some (some (.int 500 tE))) :
    ∃ fd : FuncData, (∀ (s : Shared) (v : Value), BindsTo s fd ⟨[v], []⟩ [("_law_script", v)]) ∧ ∀ base : Heap, K.In base → base.Ns mainGlobals mg → FnOk l.prog w K mg base CX0 8 fa fd ["_law_script"] (spLaw K) := by
  have e := hfa.symm.trans (PySem.W.mg_of X G Aa0)
  cases e
  have T : Txt K mg C := ⟨⟨pg, hd, po, sa⟩, n0, n1, n2, PySem.W.mg_of X G aC, PySem.W.mg_none_of X G z_len, PySem.W.mg_none_of X G z_isinstance, PySem.W.mg_none_of X G z_int, PySem.W.mg_none_of X G z_bool, PySem.W.mg_none_of X G z_list, PySem.W.mg_none_of X G z_tuple, PySem.W.mg_none_of X G z_str, PySem.W.mg_none_of X G z_all, PySem.W.mg_none_of X G z_range, PySem.W.mg_none_of X G z_divmod, PySem.W.mg_none_of X G z_sum, PySem.W.mg_none_of X G z_max, PySem.W.mg_none_of X G z_min, PySem.W.mg_none_of X G z_sorted, PySem.W.mg_none_of X G z_set, PySem.W.mg_none_of X G z_any, PySem.W.mg_none_of X G z_enumerate, ⟨tM, PySem.W.mg_of X G c_tM⟩, hlong, ⟨tF, PySem.W.mg_of X G c_tF⟩, ⟨tL, PySem.W.mg_of X G c_tL⟩⟩
  have M : Mk K C fr6 := ⟨mk, Ar6, Ir6, kc⟩
  have Fa0 := fun_mk (st := s_law) La0 Ca0 Ka0
  have Fa1 := fun_mk (st := s_is_integer) La1 Ca1 Ka1
  have Fa2 := fun_mk (st := s_are_gaps) La2 Ca2 Ka2
  have Fa3 := fun_mk (st := s_is_tail) La3 Ca3 Ka3
  have Fa4 := fun_mk (st := s_sums) La4 Ca4 Ka4
  have Fa5 := fun_mk (st := s_power) La5 Ca5 Ka5
  have Fr6 := fun_mk (st := s_Rule_ddinitdd) Lr6 Cr6 Kr6
  have Fr7 := fun_mk (st := s_Rule_attempts) Lr7 Cr7 Kr7
  have Fr8 := fun_mk (st := s_Rule_first_repeating) Lr8 Cr8 Kr8
  have Fr9 := fun_mk (st := s_Rule_period) Lr9 Cr9 Kr9
  have Fr13 := fun_mk (st := s_Rule_offset_of) Lr13 Cr13 Kr13
  have Fa16 := fun_mk (st := s_law_source_of) La16 Ca16 Ka16
  have Fa17 := fun_mk (st := s_law_draw) La17 Ca17 Ka17
  have Fa18 := fun_mk (st := s_law_choice) La18 Ca18 Ka18
  have Fa19 := fun_mk (st := s_law_cell_at) La19 Ca19 Ka19
  have Fa20 := fun_mk (st := s_law_tail) La20 Ca20 Ka20
  have Fa21 := fun_mk (st := s_first_at_least) La21 Ca21 Ka21
  have Fr22 := fun_mk (st := s_Rule_surely_short) Lr22 Cr22 Kr22
  have Fr23 := fun_mk (st := s_Rule_first_growing) Lr23 Cr23 Kr23
  have Fr24 := fun_mk (st := s_Rule_first_repeated) Lr24 Cr24 Kr24
  have Fr25 := fun_mk (st := s_Rule_first_from) Lr25 Cr25 Kr25
  have Fa26 := fun_mk (st := s_law_offsets) La26 Ca26 Ka26
  have Fa27 := fun_mk (st := s_attempts_before) La27 Ca27 Ka27
  have Fr28 := fun_mk (st := s_Rule_offsets_between) Lr28 Cr28 Kr28
  have Fa29 := fun_mk (st := s_are_two_integers) La29 Ca29 Ka29
  have Fa30 := fun_mk (st := s_are_slots) La30 Ca30 Ka30
  have Fa31 := fun_mk (st := s_check_window) La31 Ca31 Ka31
  have Fa32 := fun_mk (st := s_check_log) La32 Ca32 Ka32
  have Fa33 := fun_mk (st := s_up_to_unlogged) La33 Ca33 Ka33
  have Fa34 := fun_mk (st := s_infer_starts) La34 Ca34 Ka34
  have Fa35 := fun_mk (st := s_law_counted) La35 Ca35 Ka35
  have Fa36 := fun_mk (st := s_law_plan) La36 Ca36 Ka36
  have Fa37 := fun_mk (st := s_law_walked) La37 Ca37 Ka37
  have Fa38 := fun_mk (st := s_law_changed) La38 Ca38 Ka38
  have ba1 := Fa1.binds (ps := ["value"]) fun _ _ _ _ _ _ us hl => match us, hl with | [_], _ => rfl
  have ga1 := PySem.W.mg_of X G Aa1
  have ba2 := Fa2.binds (ps := ["value", "most"]) fun _ _ _ _ _ _ us hl => match us, hl with | [_, _], _ => rfl
  have ga2 := PySem.W.mg_of X G Aa2
  have ba3 := Fa3.binds (ps := ["value", "many"]) fun _ _ _ _ _ _ us hl => match us, hl with | [_, _], _ => rfl
  have ga3 := PySem.W.mg_of X G Aa3
  have ba4 := Fa4.binds (ps := ["gaps"]) fun _ _ _ _ _ _ us hl => match us, hl with | [_], _ => rfl
  have ga4 := PySem.W.mg_of X G Aa4
  have ba5 := Fa5.binds (ps := ["base", "exponent"]) fun _ _ _ _ _ _ us hl => match us, hl with | [_, _], _ => rfl
  have ga5 := PySem.W.mg_of X G Aa5
  have br6 := Fr6.binds (ps := ["self", "gaps", "tail"]) fun _ _ _ _ _ _ us hl => match us, hl with | [_, _, _], _ => rfl
  have er6 : Meth K C "__init__" fr6 := ⟨Ar6, Ir6, Kr6⟩
  have br7 := Fr7.binds (ps := ["self"]) fun _ _ _ _ _ _ us hl => match us, hl with | [_], _ => rfl
  have er7 : Meth K C "attempts" fr7 := ⟨Ar7, Ir7, Kr7⟩
  have br8 := Fr8.binds (ps := ["self"]) fun _ _ _ _ _ _ us hl => match us, hl with | [_], _ => rfl
  have er8 : Meth K C "first_repeating" fr8 := ⟨Ar8, Ir8, Kr8⟩
  have br9 := Fr9.binds (ps := ["self"]) fun _ _ _ _ _ _ us hl => match us, hl with | [_], _ => rfl
  have er9 : Meth K C "period" fr9 := ⟨Ar9, Ir9, Kr9⟩
  have br13 := Fr13.binds (ps := ["self", "attempt"]) fun _ _ _ _ _ _ us hl => match us, hl with | [_, _], _ => rfl
  have er13 : Meth K C "_offset_of" fr13 := ⟨Ar13, Ir13, Kr13⟩
  have ba16 := Fa16.binds (ps := ["_law_cell"]) fun _ _ _ _ _ _ us hl => match us, hl with | [_], _ => rfl
  have ga16 := PySem.W.mg_of X G Aa16
  have ba17 := Fa17.binds (ps := ["_law_source", "_law_bound"]) fun _ _ _ _ _ _ us hl => match us, hl with | [_, _], _ => rfl
  have ga17 := PySem.W.mg_of X G Aa17
  have ba18 := Fa18.binds (ps := ["_law_source", "_law_options"]) fun _ _ _ _ _ _ us hl => match us, hl with | [_, _], _ => rfl
  have ga18 := PySem.W.mg_of X G Aa18
  have ba19 := Fa19.binds (ps := ["_law_script", "_law_index"]) fun _ _ _ _ _ _ us hl => match us, hl with | [_, _], _ => rfl
  have ga19 := PySem.W.mg_of X G Aa19
  have ba20 := Fa20.binds (ps := ["_law_source", "_law_gaps", "_law_words"]) fun _ _ _ _ _ _ us hl => match us, hl with | [_, _, _], _ => rfl
  have ga20 := PySem.W.mg_of X G Aa20
  have ba21 := Fa21.binds (ps := ["offsets", "distance"]) fun _ _ _ _ _ _ us hl => match us, hl with | [_, _], _ => rfl
  have ga21 := PySem.W.mg_of X G Aa21
  have br22 := Fr22.binds (ps := ["self", "way"]) fun _ _ _ _ _ _ us hl => match us, hl with | [_, _], _ => rfl
  have er22 : Meth K C "_surely_short" fr22 := ⟨Ar22, Ir22, Kr22⟩
  have br23 := Fr23.binds (ps := ["self", "distance"]) fun _ _ _ _ _ _ us hl => match us, hl with | [_, _], _ => rfl
  have er23 : Meth K C "_first_growing" fr23 := ⟨Ar23, Ir23, Kr23⟩
  have br24 := Fr24.binds (ps := ["self", "distance"]) fun _ _ _ _ _ _ us hl => match us, hl with | [_, _], _ => rfl
  have er24 : Meth K C "_first_repeated" fr24 := ⟨Ar24, Ir24, Kr24⟩
  have br25 := Fr25.binds (ps := ["self", "distance"]) fun _ _ _ _ _ _ us hl => match us, hl with | [_, _], _ => rfl
  have er25 : Meth K C "first_from" fr25 := ⟨Ar25, Ir25, Kr25⟩
  have ba26 := Fa26.binds (ps := ["_law_gaps", "_law_tail_here", "_law_count"]) fun _ _ _ _ _ _ us hl => match us, hl with | [_, _, _], _ => rfl
  have ga26 := PySem.W.mg_of X G Aa26
  have ba27 := Fa27.binds (ps := ["rule", "distance"]) fun _ _ _ _ _ _ us hl => match us, hl with | [_, _], _ => rfl
  have ga27 := PySem.W.mg_of X G Aa27
  have br28 := Fr28.binds (ps := ["self", "first", "after"]) fun _ _ _ _ _ _ us hl => match us, hl with | [_, _, _], _ => rfl
  have er28 : Meth K C "offsets_between" fr28 := ⟨Ar28, Ir28, Kr28⟩
  have ba29 := Fa29.binds (ps := ["value"]) fun _ _ _ _ _ _ us hl => match us, hl with | [_], _ => rfl
  have ga29 := PySem.W.mg_of X G Aa29
  have ba30 := Fa30.binds (ps := ["value"]) fun _ _ _ _ _ _ us hl => match us, hl with | [_], _ => rfl
  have ga30 := PySem.W.mg_of X G Aa30
  have ba31 := Fa31.binds (ps := ["window"]) fun _ _ _ _ _ _ us hl => match us, hl with | [_], _ => rfl
  have ga31 := PySem.W.mg_of X G Aa31
  have ba32 := Fa32.binds (ps := ["log", "window"]) fun _ _ _ _ _ _ us hl => match us, hl with | [_, _], _ => rfl
  have ga32 := PySem.W.mg_of X G Aa32
  have ba33 := Fa33.binds (ps := ["slots", "logged"]) fun _ _ _ _ _ _ us hl => match us, hl with | [_, _], _ => rfl
  have ga33 := PySem.W.mg_of X G Aa33
  have ba34 := Fa34.binds (ps := ["rule", "window", "log"]) fun _ _ _ _ _ _ us hl => match us, hl with | [_, _, _], _ => rfl
  have ga34 := PySem.W.mg_of X G Aa34
  have ba35 := Fa35.binds (ps := ["_law_offsets_here", "_law_window", "_law_starts"]) fun _ _ _ _ _ _ us hl => match us, hl with | [_, _, _], _ => rfl
  have ga35 := PySem.W.mg_of X G Aa35
  have ba36 := Fa36.binds (ps := ["_law_source", "_law_words"]) fun _ _ _ _ _ _ us hl => match us, hl with | [_, _], _ => rfl
  have ga36 := PySem.W.mg_of X G Aa36
  have ba37 := Fa37.binds (ps := ["_law_offsets_here", "_law_window", "_law_log"]) fun _ _ _ _ _ _ us hl => match us, hl with | [_, _, _], _ => rfl
  have ga37 := PySem.W.mg_of X G Aa37
  have ba38 := Fa38.binds (ps := ["_law_source", "_law_window", "_law_log"]) fun _ _ _ _ _ _ us hl => match us, hl with | [_, _, _], _ => rfl
  have ga38 := PySem.W.mg_of X G Aa38

  refine ⟨PySem.W.fnOf "law" "law" (defArgs s_law) (defBody s_law) (defScope s_law) .none kVa0 dca0 pma0 ana0 cda0 cta0, fun s v => .of_eq rfl, fun base _ _ => ?_⟩
  have G0 := ok_isInt (mg := mg) (P := l.prog) (w := w) (base := base) Fa1 T
  have G10 := ok_init (mg := mg) (P := l.prog) (w := w) (base := base) Fr6 T Fa1 ba1 ga1 Fa2 ba2 ga2 Fa3 ba3 ga3 Fa4 ba4 ga4
  have G12 := ok_attempts (mg := mg) (P := l.prog) (w := w) (base := base) Fr7 T
  have G26 := ok_off (mg := mg) (P := l.prog) (w := w) (base := base) Fr13 T Fr8 br8 er8 Fr9 br9 er9 Fa5 ba5 ga5
  have G32 := ok_srcOf (mg := mg) (P := l.prog) (w := w) (base := base) Fa16 T
  have G34 := ok_next (mg := mg) (P := l.prog) (w := w) (base := base) Fa17 T
  have G36 := ok_one (mg := mg) (P := l.prog) (w := w) (base := base) Fa18 T Fa17 ba17 ga17
  have G38 := ok_cell (mg := mg) (P := l.prog) (w := w) (base := base) Fa19 T
  have G40 := ok_tl (mg := mg) (P := l.prog) (w := w) (base := base) Fa20 T G34 ba17 ga17 Ka17 G36 ba18 ga18 Ka18
  have G46 := ok_fg (mg := mg) (P := l.prog) (w := w) (base := base) Fr23 T Fr22 br22 er22 G26 br13 er13 Fa5 ba5 ga5
  have G48 := ok_frp (mg := mg) (P := l.prog) (w := w) (base := base) Fr24 T Fr8 br8 er8 Fr9 br9 er9 Fa21 ba21 ga21
  have G50 := ok_ff (mg := mg) (P := l.prog) (w := w) (base := base) Fr25 T Fa1 ba1 ga1 Fa21 ba21 ga21 G46 br23 er23 G48 br24 er24
  have G52 := ok_ofs (mg := mg) (P := l.prog) (w := w) (base := base) Fa26 T
  have G54 := ok_ab (mg := mg) (P := l.prog) (w := w) (base := base) Fa27 T G50 br25 er25 G12 br7 er7
  have G56 := ok_ob2 (mg := mg) (P := l.prog) (w := w) (base := base) Fr28 T G26 br13 er13
  have G58 := ok_two (mg := mg) (P := l.prog) (w := w) (base := base) Fa29 T G0 ba1 ga1 Ka1
  have G60 := ok_isO (mg := mg) (P := l.prog) (w := w) (base := base) Fa30 T G58 ba29 ga29 Ka29
  have G62 := ok_cw (mg := mg) (P := l.prog) (w := w) (base := base) Fa31 G60 ba30 ga30 Ka30
  have G64 := ok_kl (mg := mg) (P := l.prog) (w := w) (base := base) Fa32 T ⟨tE, PySem.W.mg_of X G c_tE⟩ G58 ba29 ga29 Ka29
  have G66 := ok_uu (mg := mg) (P := l.prog) (w := w) (base := base) Fa33 T
  have G68 := ok_in (mg := mg) (P := l.prog) (w := w) (base := base) Fa34 T G62 ba31 ga31 Ka31 G64 ba32 ga32 Ka32 G54 ba27 ga27 Ka27 G56 br28 er28 G66 ba33 ga33 Ka33
  have G70 := ok_co (mg := mg) (P := l.prog) (w := w) (base := base) Fa35 T
  have G72 := ok_pl (mg := mg) (P := l.prog) (w := w) (base := base) Fa36 T G34 ba17 ga17 Ka17 G36 ba18 ga18 Ka18 G40 ba20 ga20 Ka20 G52 ba26 ga26 Ka26
  have G74 := ok_wk (mg := mg) (P := l.prog) (w := w) (base := base) Fa37 T (PySem.W.mg_none_of X G z_dict)
  have G76 := ok_ch (mg := mg) (P := l.prog) (w := w) (base := base) Fa38 T (PySem.W.mg_none_of X G z_dict) G34 ba17 ga17 Ka17 G36 ba18 ga18 Ka18
  exact ok_law (P := l.prog) (w := w) (base := base) Fa0 T M (PySem.W.mg_none_of X G z_set) G10 br6 G38 ba19 ga19 Ka19 G32 ba16 ga16 Ka16 G72 ba36 ga36 Ka36 G34 ba17 ga17 Ka17 G36 ba18 ga18 Ka18 G70 ba35 ga35 Ka35 G68 ba34 ga34 Ka34 G74 ba37 ga37 Ka37 G76 ba38 ga38 Ka38
/-- the end of the walk, with what the top left loose -/
theorem walk_x {l : PySem.W.OpenLaw} {q : Program} {loose : List Str} {XP : (Str → Option Value) → Heap → Prop} {YP : World → Heap → Prop} {d : DefRec} {K : Params → PySem.W.Frag} (hn : l.most = some 63) (hdf : d.params.defaults = [])
    (hY : ∀ (w : World) (h : Heap), YP w h → (K w.params).In h)
    (F : ∀ (w : World) (mg : Str → Option Value) (fa : Addr) (h : Heap), (K w.params).In h → h.Ns mainGlobals mg → mg d.name = some (.ref fa) → XP mg h →
      ∃ fd : FuncData, (∀ (s : Shared) (u : Value), BindsTo s fd ⟨[u], []⟩ [("_law_script", u)]) ∧ ∀ base : Heap, (K w.params).In base → base.Ns mainGlobals mg → FnOk l.prog w (K w.params) mg base CX0 8 fa fd ["_law_script"] (spLaw (K w.params))) :
    PySem.W.WalkO q loose XP YP l.row.toRowW d [] (fun f vs => PySem.call f vs) := by
  refine Att.attach_call hn hdf ?_
  intro w _ s1 mg _ fa _ _ _ _ a vs ns G Y _ _ _ hmg hobj hints hlen hg
  obtain ⟨fd, hb, hF⟩ := F w mg fa _ (hY w _ Y) G.T.g hmg G.X
  refine law_call (hY w _ Y) G.T.g G.T.b G.T.builtins G.T.nolimit hg hobj hints ?_ ?_ hF hb ?_ ?_
  · exact Nat.le_trans hlen (by decide)
  · exact ⟨rfl, by decide, by decide⟩
  · exact fun H _ hS => ⟨a, ns, rfl, hS, hlen, fun _ => rfl⟩
  · exact fun H e s' z => z
theorem long_of {p : Program} {mg : Str → Option Value} {h : Heap} (x : PySem.W.XL p [("_LONGEST_GAP", .int 1000000000000)] mg h) : ∃ t, mg "_LONGEST_GAP" = some (.int 1000000000000 t) := by
  obtain ⟨v, e, r⟩ := x.2.val _ (List.mem_singleton.mpr rfl)
  cases r
  exact ⟨_, e⟩
end RS
open PySem PySem.W PyProof.Rows
set_option maxRecDepth 100000 in
set_option maxHeartbeats 0 in
theorem PySem.Challenge.cw_retryslots_k54_starts_inferred_holds : PySem.Challenge.rw_retryslots_k54_starts_inferred.Holds := by
  w_on; o_law; k_head; (case hw => w_witness2)
  k_fill
  refine RS.walk_x (l := PySem.Challenge.rw_retryslots_k54_starts_inferred) rfl rfl (fun w h Y => PySem.W.kIn_of Y) ?F
  case F =>
    intro w mg fa h KX G hmg XX
    refine' RS.all_mk KX G hmg (RS.long_of XX) ?Aa0 ?La0 ?Ca0 ?Ka0 ?Aa1 ?La1 ?Ca1 ?Ka1 ?Aa2 ?La2 ?Ca2 ?Ka2 ?Aa3 ?La3 ?Ca3 ?Ka3 ?Aa4 ?La4 ?Ca4 ?Ka4 ?Aa5 ?La5 ?Ca5 ?Ka5 ?Ar6 ?Ir6 ?Lr6 ?Cr6 ?Kr6 ?Ar7 ?Ir7 ?Lr7 ?Cr7 ?Kr7 ?Ar8 ?Ir8 ?Lr8 ?Cr8 ?Kr8 ?Ar9 ?Ir9 ?Lr9 ?Cr9 ?Kr9 ?Ar13 ?Ir13 ?Lr13 ?Cr13 ?Kr13 ?Aa16 ?La16 ?Ca16 ?Ka16 ?Aa17 ?La17 ?Ca17 ?Ka17 ?Aa18 ?La18 ?Ca18 ?Ka18 ?Aa19 ?La19 ?Ca19 ?Ka19 ?Aa20 ?La20 ?Ca20 ?Ka20 ?Aa21 ?La21 ?Ca21 ?Ka21 ?Ar22 ?Ir22 ?Lr22 ?Cr22 ?Kr22 ?Ar23 ?Ir23 ?Lr23 ?Cr23 ?Kr23 ?Ar24 ?Ir24 ?Lr24 ?Cr24 ?Kr24 ?Ar25 ?Ir25 ?Lr25 ?Cr25 ?Kr25 ?Aa26 ?La26 ?Ca26 ?Ka26 ?Aa27 ?La27 ?Ca27 ?Ka27 ?Ar28 ?Ir28 ?Lr28 ?Cr28 ?Kr28 ?Aa29 ?La29 ?Ca29 ?Ka29 ?Aa30 ?La30 ?Ca30 ?Ka30 ?Aa31 ?La31 ?Ca31 ?Ka31 ?Aa32 ?La32 ?Ca32 ?Ka32 ?Aa33 ?La33 ?Ca33 ?Ka33 ?Aa34 ?La34 ?Ca34 ?Ka34 ?Aa35 ?La35 ?Ca35 ?Ka35 ?Aa36 ?La36 ?Ca36 ?Ka36 ?Aa37 ?La37 ?Ca37 ?Ka37 ?Aa38 ?La38 ?Ca38 ?Ka38 ?aC ?pg ?hd ?po ?sa ?mk ?kc ?n0 ?n1 ?n2 ?z_len ?z_isinstance ?z_int ?z_bool ?z_list ?z_tuple ?z_str ?z_all ?z_range ?z_divmod ?z_sum ?z_max ?z_min ?z_sorted ?z_set ?z_any ?z_enumerate ?z_dict ?c_tM ?c_tF ?c_tL ?c_tE
    (case aC => k_is)
    (case Aa0 => k_is)
    (case La0 => k_is)
    (case Ca0 => k_is)
    (case Ka0 => k_is)
    (case Aa1 => k_is)
    (case La1 => k_is)
    (case Ca1 => k_is)
    (case Ka1 => k_is)
    (case Aa2 => k_is)
    (case La2 => k_is)
    (case Ca2 => k_is)
    (case Ka2 => k_is)
    (case Aa3 => k_is)
    (case La3 => k_is)
    (case Ca3 => k_is)
    (case Ka3 => k_is)
    (case Aa4 => k_is)
    (case La4 => k_is)
    (case Ca4 => k_is)
    (case Ka4 => k_is)
    (case Aa5 => k_is)
    (case La5 => k_is)
    (case Ca5 => k_is)
    (case Ka5 => k_is)
    (case Ar6 => k_is)
    (case Ir6 => k_is)
    (case Lr6 => k_is)
    (case Cr6 => k_is)
    (case Kr6 => k_is)
    (case Ar7 => k_is)
    (case Ir7 => k_is)
    (case Lr7 => k_is)
    (case Cr7 => k_is)
    (case Kr7 => k_is)
    (case Ar8 => k_is)
    (case Ir8 => k_is)
    (case Lr8 => k_is)
    (case Cr8 => k_is)
    (case Kr8 => k_is)
    (case Ar9 => k_is)
    (case Ir9 => k_is)
    (case Lr9 => k_is)
    (case Cr9 => k_is)
    (case Kr9 => k_is)
    (case Ar13 => k_is)
    (case Ir13 => k_is)
    (case Lr13 => k_is)
    (case Cr13 => k_is)
    (case Kr13 => k_is)
    (case Aa16 => k_is)
    (case La16 => k_is)
    (case Ca16 => k_is)
    (case Ka16 => k_is)
    (case Aa17 => k_is)
    (case La17 => k_is)
    (case Ca17 => k_is)
    (case Ka17 => k_is)
    (case Aa18 => k_is)
    (case La18 => k_is)
    (case Ca18 => k_is)
    (case Ka18 => k_is)
    (case Aa19 => k_is)
    (case La19 => k_is)
    (case Ca19 => k_is)
    (case Ka19 => k_is)
    (case Aa20 => k_is)
    (case La20 => k_is)
    (case Ca20 => k_is)
    (case Ka20 => k_is)
    (case Aa21 => k_is)
    (case La21 => k_is)
    (case Ca21 => k_is)
    (case Ka21 => k_is)
    (case Ar22 => k_is)
    (case Ir22 => k_is)
    (case Lr22 => k_is)
    (case Cr22 => k_is)
    (case Kr22 => k_is)
    (case Ar23 => k_is)
    (case Ir23 => k_is)
    (case Lr23 => k_is)
    (case Cr23 => k_is)
    (case Kr23 => k_is)
    (case Ar24 => k_is)
    (case Ir24 => k_is)
    (case Lr24 => k_is)
    (case Cr24 => k_is)
    (case Kr24 => k_is)
    (case Ar25 => k_is)
    (case Ir25 => k_is)
    (case Lr25 => k_is)
    (case Cr25 => k_is)
    (case Kr25 => k_is)
    (case Aa26 => k_is)
    (case La26 => k_is)
    (case Ca26 => k_is)
    (case Ka26 => k_is)
    (case Aa27 => k_is)
    (case La27 => k_is)
    (case Ca27 => k_is)
    (case Ka27 => k_is)
    (case Ar28 => k_is)
    (case Ir28 => k_is)
    (case Lr28 => k_is)
    (case Cr28 => k_is)
    (case Kr28 => k_is)
    (case Aa29 => k_is)
    (case La29 => k_is)
    (case Ca29 => k_is)
    (case Ka29 => k_is)
    (case Aa30 => k_is)
    (case La30 => k_is)
    (case Ca30 => k_is)
    (case Ka30 => k_is)
    (case Aa31 => k_is)
    (case La31 => k_is)
    (case Ca31 => k_is)
    (case Ka31 => k_is)
    (case Aa32 => k_is)
    (case La32 => k_is)
    (case Ca32 => k_is)
    (case Ka32 => k_is)
    (case Aa33 => k_is)
    (case La33 => k_is)
    (case Ca33 => k_is)
    (case Ka33 => k_is)
    (case Aa34 => k_is)
    (case La34 => k_is)
    (case Ca34 => k_is)
    (case Ka34 => k_is)
    (case Aa35 => k_is)
    (case La35 => k_is)
    (case Ca35 => k_is)
    (case Ka35 => k_is)
    (case Aa36 => k_is)
    (case La36 => k_is)
    (case Ca36 => k_is)
    (case Ka36 => k_is)
    (case Aa37 => k_is)
    (case La37 => k_is)
    (case Ca37 => k_is)
    (case Ka37 => k_is)
    (case Aa38 => k_is)
    (case La38 => k_is)
    (case Ca38 => k_is)
    (case Ka38 => k_is)
    (case pg => k_is)
    (case hd => k_is)
    (case po => k_is)
    (case sa => k_is)
    (case mk => k_is)
    (case kc => k_is)
    (case n0 => k_is)
    (case n1 => k_is)
    (case n2 => k_is)
    (case z_len => k_is)
    (case z_isinstance => k_is)
    (case z_int => k_is)
    (case z_bool => k_is)
    (case z_list => k_is)
    (case z_tuple => k_is)
    (case z_str => k_is)
    (case z_all => k_is)
    (case z_range => k_is)
    (case z_divmod => k_is)
    (case z_sum => k_is)
    (case z_max => k_is)
    (case z_min => k_is)
    (case z_sorted => k_is)
    (case z_set => k_is)
    (case z_any => k_is)
    (case z_enumerate => k_is)
    (case z_dict => k_is)
    (case c_tM => k_is)
    (case c_tF => k_is)
    (case c_tL => k_is)
    (case c_tE => k_is)

import PyProof.Rows.All
import Wide.All
import OpenK.AllK
import Wide.FinOn
import HandS.ForMost
import HandS.Evl
import HandS.Wide
import HandS.WideBits
import HandS.IsInst
import KE.KEqDeep
import KE.KMinKey
import HandS.Codes
import HandS.OwnEq
import PyProof.InstNe
import HandS.MakeKwOnly
import HandS.SortKw
import HandS.Defaults
import HandS.Exc
import HandS.TryOnly
import HandS.TryMany
import HandS.ExcOwn
import HandS.WordsExc
import HandS.More
import HandS.Lambda
import KE.KExcIs
import HandS.HotCalls
import HandS.ExcInit
import KE.KExcInit
import HandS.Walk
import HandS.Flow
import HandS.Iter
import PyProof.ReprRoads
import HandS.EndTab
import KE.DataFind
import PySem.Challenge.RW_retryslots_k23_places_of_attempts
set_option Elab.async false
set_option maxRecDepth 100000
set_option maxHeartbeats 2000000
namespace RS
open PySem L2
def top (i : Nat) : Stmt := PySem.Challenge.pw_retryslots_k23_places_of_attempts.main.body.getD i (.Pass ⟨0, 0, 0, 0⟩)
abbrev s_wall : Stmt := top 0
abbrev s_InvalidRule_ddinitdd : Stmt := inClass (top 3) 0
abbrev s_InvalidAttempt_ddinitdd : Stmt := inClass (top 4) 0
abbrev s_InvalidSlot_ddinitdd : Stmt := inClass (top 5) 0
abbrev s_InvalidScene_ddinitdd : Stmt := inClass (top 6) 0
abbrev s_InvalidClient_ddinitdd : Stmt := inClass (top 7) 0
abbrev s_InvalidLog_ddinitdd : Stmt := inClass (top 8) 0
abbrev s_InvalidBound_ddinitdd : Stmt := inClass (top 9) 0
abbrev s_InvalidReason_ddinitdd : Stmt := inClass (top 10) 0
abbrev s_LimitExceeded_ddinitdd : Stmt := inClass (top 11) 0
abbrev s_InvalidText_ddinitdd : Stmt := inClass (top 12) 0
abbrev s_is_integer : Stmt := top 14
abbrev s_check_slot : Stmt := top 18
abbrev s_check_client : Stmt := top 19
abbrev s_check_starts : Stmt := top 20
abbrev s_are_gaps : Stmt := top 21
abbrev s_are_slots : Stmt := top 22
abbrev s_are_two_integers : Stmt := top 23
abbrev s_sums : Stmt := top 25
abbrev s_Rule_ddinitdd : Stmt := inClass (top 30) 0
abbrev s_Rule_ddeqdd : Stmt := inClass (top 30) 1
abbrev s_Rule_gaps : Stmt := inClass (top 30) 2
abbrev s_Rule_tail : Stmt := inClass (top 30) 3
abbrev s_Rule_attempts : Stmt := inClass (top 30) 4
abbrev s_Rule_gap : Stmt := inClass (top 30) 5
abbrev s_Rule_offset : Stmt := inClass (top 30) 6
abbrev s_Rule_first_from : Stmt := inClass (top 30) 7
abbrev s_Rule_attempt_at : Stmt := inClass (top 30) 8
abbrev s_Rule_period : Stmt := inClass (top 30) 9
abbrev s_Rule_least_gap : Stmt := inClass (top 30) 10
abbrev s_Rule_first_repeating : Stmt := inClass (top 30) 11
abbrev s_Rule_offsets_between : Stmt := inClass (top 30) 12
abbrev s_Rule_check_attempt : Stmt := inClass (top 30) 13
abbrev s_Rule_offset_of : Stmt := inClass (top 30) 14
abbrev s_Rule_first_growing : Stmt := inClass (top 30) 15
abbrev s_Rule_surely_short : Stmt := inClass (top 30) 16
abbrev s_Rule_first_repeated : Stmt := inClass (top 30) 17
abbrev s_is_tail : Stmt := top 31
abbrev s_first_at_least : Stmt := top 32
abbrev s_power : Stmt := top 33
abbrev s_Scene_ddinitdd : Stmt := inClass (top 36) 0
abbrev s_Scene_ddeqdd : Stmt := inClass (top 36) 1
abbrev s_Scene_rule : Stmt := inClass (top 36) 2
abbrev s_Scene_starts : Stmt := inClass (top 36) 3
abbrev s_Scene_outages : Stmt := inClass (top 36) 4
abbrev s_Scene_length : Stmt := inClass (top 36) 5
abbrev s_Scene_slot_of : Stmt := inClass (top 36) 6
abbrev s_Scene_attempt_in : Stmt := inClass (top 36) 7
abbrev s_Scene_outage_at : Stmt := inClass (top 36) 8
abbrev s_check_outages : Stmt := top 37
abbrev s_law_mixed : Stmt := top 39
abbrev s_law_well : Stmt := top 40
abbrev s_law_draw : Stmt := top 41
abbrev s_law_one : Stmt := top 42
abbrev s_law_gaps : Stmt := top 43
abbrev s_law_windows : Stmt := top 44
abbrev s_law_parts : Stmt := top 45
abbrev s_law_made : Stmt := top 46
abbrev s_law_offsets : Stmt := top 47
abbrev s_law_said : Stmt := top 48
abbrev s_law_far : Stmt := top 49
abbrev s_law_slots_right : Stmt := top 50
abbrev s_law_far_right : Stmt := top 51
abbrev s_law_windows_right : Stmt := top 52
abbrev s_law_right : Stmt := top 53
abbrev s_law : Stmt := top 54
/-! ### what the walk asks of the text's top -/
structure Txt (K : PySem.W.Frag) (mg : Str → Option Value) (C : Addr) : Prop where
  cl : Cls K C
  nG : NoAttr K C "_gaps"
  nT : NoAttr K C "_tail"
  nO : NoAttr K C "_offsets"
  mgC : mg "Rule" = some (.ref C)
  len : mg "len" = none
  isi : mg "isinstance" = none
  int : mg "int" = none
  bool : mg "bool" = none
  list : mg "list" = none
  tuple : mg "tuple" = none
  str : mg "str" = none
  all : mg "all" = none
  range : mg "range" = none
  divmod : mg "divmod" = none
  sum : mg "sum" = none
  max : mg "max" = none
  min : mg "min" = none
  sorted : mg "sorted" = none
  set : mg "set" = none
  any : mg "any" = none
  enum : mg "enumerate" = none
  mMost : ∃ t, mg "_MOST_GAPS" = some (.int 20 t)
  mLong : ∃ t, mg "_LONGEST_GAP" = some (.int 1000000000000 t)
  mFact : ∃ t, mg "_GREATEST_FACTOR" = some (.int 1000 t)
  mLast : ∃ t, mg "LAST_GROWING" = some (.int 1000 t)

/-! ### the data -/
/-- a rule's tail -/
inductive Tl where
  | fin
  | times (b : Int)
  | rep (n : Nat)
def Tl.vs : Tl → List V
  | .fin => [.str "end"]
  | .times b => [.str "times", .int b]
  | .rep n => [.str "repeat", .int (n : Int)]
def GapsOk (gs : List Int) : Prop := gs.length ≤ 20 ∧ ∀ g ∈ gs, 1 ≤ g ∧ g ≤ 1000000000000
def TlOk (many : Nat) : Tl → Prop
  | .fin => True
  | .times b => 0 < many ∧ 2 ≤ b ∧ b ≤ 1000
  | .rep n => 1 ≤ n ∧ n ≤ many
/-- the sum of the first k gaps -/
def pre (gs : List Int) (k : Nat) : Int := (gs.take k).sum
def offs (gs : List Int) : List Int := (List.range (gs.length + 1)).map (pre gs)
theorem offs_len (gs : List Int) : (offs gs).length = gs.length + 1 := by simp [offs]
theorem offs_get (gs : List Int) {k : Nat} (h : k ≤ gs.length) : (offs gs)[k]? = some (pre gs k) := by
  unfold offs
  rw [List.getElem?_map, List.getElem?_range (by omega)]
  rfl
theorem pre_zero (gs : List Int) : pre gs 0 = 0 := rfl
theorem pre_succ (gs : List Int) {k : Nat} {g : Int} (h : gs[k]? = some g) : pre gs (k + 1) = pre gs k + g := by
  unfold pre
  rw [List.take_add_one, h, List.sum_append]
  simp
theorem iteFb {b : Bool} {A B : Prop} (e : b = false) (h : B) : if b = true then A else B := by
  rw [e]
  exact iteF h
theorem iteTb {b : Bool} {A B : Prop} (e : b = true) (h : A) : if b = true then A else B := by
  rw [e]
  exact iteT h
theorem yes_t {Q : Bool → Hp → Prop} {σ : L2.St} {H : Hp} (h : Q true H) : tYes σ H Q := h
theorem at_map {xs : List Int} {j : Nat} {v : Int} (h : xs[j]? = some v) : atI (xs.map V.int) (j : Int) = some (.int v) := atI_nat (by rw [List.getElem?_map, h]; rfl)
theorem at_back {α : Type} {xs : List α} {j : Nat} {v : α} (h0 : 0 < j) (hj : j ≤ xs.length) (h : xs[xs.length - j]? = some v) : atI xs (-(j : Int)) = some v := by
  have e : ixN xs.length (-(j : Int)) = some (xs.length - j) := by
    unfold ixN
    rw [if_neg (by omega), if_pos (by omega)]
    congr 1
    omega
  unfold atI
  rw [e]
  exact h
theorem at_back1 {α : Type} {xs : List α} {v : α} (hj : 0 < xs.length) (h : xs[xs.length - 1]? = some v) : atI xs (-1) = some v := at_back (j := 1) (by omega) hj h

section
variable {P : Program} {w : World} {K : PySem.W.Frag} {mg : Str → Option Value} {base : Heap}
/-! ### is_integer -/
def spIsInt : Sp := fun vs H Q _ => ∃ i, vs = [.int i] ∧ Q (.bl true) H
theorem scIsInt : FnScope ["value"] ["value"] (defScope s_is_integer) := ⟨rfl, rfl, rfl, by decide +kernel, rfl, by decide +kernel, by decide +kernel⟩
theorem ok_isInt {f C : Addr} {fd : FuncData} (F : Fun K "is_integer" "is_integer" s_is_integer f fd) (T : Txt K mg C) : FnOk P w K mg base CX0 1 f fd ["value"] spIsInt := by
  refine F.ok scIsInt (fun vs H Q E h => ?_) (fun cdv A outer s H vs Q E hr h => ?_)
  · obtain ⟨i, rfl, _⟩ := h
    rfl
  · obtain ⟨i, rfl, k⟩ := h
    refine ⟨_, pss_one (ps_ret (pe_and (pe_callB call_isi (by rfl) T.isi (by decide +kernel) (pa_cons (pv 0) (pa_cons (pe_bltn (v := .ty "int") (by rfl) T.int (by decide +kernel) rfl) pa_nil))) (pe_one (pe_not (pe_callB call_isi (by rfl) T.isi (by decide +kernel) (pa_cons (pv 0) (pa_cons (pe_bltn (v := .ty "bool") (by rfl) T.bool (by decide +kernel) rfl) pa_nil))))))), ?_⟩
    refine ⟨_, rfl, _, _, _, _, _, rfl, .ty _, .base (.int i), kit_ty (r := true) (by decide +kernel), true, rfl, ?_⟩
    refine iteT ?_
    exact ⟨_, rfl, _, _, _, _, _, rfl, .ty _, .base (.int i), kit_ty (r := false) (by decide +kernel), false, rfl, k⟩

/-! ### _are_gaps -/
def spAreGaps : Sp := fun vs H Q _ => ∃ a gs, ∃ most : Nat, vs = [.ref a, .int (most : Int)] ∧ H a = some (.lst (gs.map V.int)) ∧ GapsOk gs ∧ gs.length ≤ most ∧ ∀ H', Same H H' → Q (.bl true) H'
theorem scAreGaps : FnScope ["value", "most", "gap"] ["value", "most"] (defScope s_are_gaps) := ⟨rfl, rfl, rfl, by decide +kernel, rfl, by decide +kernel, by decide +kernel⟩
theorem ok_areGaps {f C fi : Addr} {fd fdi : FuncData} (F : Fun K "are_gaps" "are_gaps" s_are_gaps f fd) (T : Txt K mg C) (FI : Fun K "is_integer" "is_integer" s_is_integer fi fdi) (bI : Binds K fdi ["value"] []) (mI : mg "is_integer" = some (.ref fi)) : FnOk P w K mg base CX0 2 f fd ["value", "most"] spAreGaps := by
  have GI : FnOk P w K mg base CX0 1 fi fdi ["value"] spIsInt := ok_isInt FI T
  obtain ⟨t2, m2⟩ := T.mLong
  refine F.ok scAreGaps (fun vs H Q E h => ?_) (fun cdv A outer s H vs Q E hr h => ?_)
  · obtain ⟨a, gs, most, rfl, _⟩ := h
    rfl
  · obtain ⟨a, gs, most, rfl, ha, ok, okm, k⟩ := h
    refine ⟨_, (pss_cons (ps_if (PW.pt (pw_or (pt_not (pt_val (pe_callB call_isi (by rfl) T.isi (by decide +kernel) (pa_cons (pv 0) (pa_cons (pe_bltn (v := .ty "list") (by rfl) T.list (by decide +kernel) rfl) pa_nil))))) (pw_or1 (pt_cmpR op_gt (pe_callB call_len_seq (by rfl) T.len (by decide +kernel) (pa_cons (pv 0) pa_nil)) (pv 1) (nomark _))))) (pss_one (ps_ret pe_bl)) pss_nil) (pss_one (ps_ret (pe_callB (cr_all rfl) (by rfl) T.all (by decide +kernel) (pa_cons (pe_lc (own := [("gap", 2)]) (g := gName 2) (tt := tYes) rfl scAreGaps.nd (pi_list (pv 0)) (blkOk_by (own := [("gap", 2)]) (N := ["value", "most", "gap"]) (sc := defScope s_are_gaps) (by decide +kernel))
          (fun _ _ _ _ _ => (pg_name (i := 2) scAreGaps.nd rfl (Or.inl rfl))) (fun _ _ _ _ _ => pts_nil)
          (fun _ _ _ _ _ => pe_and (pe_call GI hr rfl mI FI.kp bI .nil pass0 (pa_cons (pv 2) pa_nil)) (pe_one (pe_chain op_le op_le pe_int (pv 2) (pe_glob (v := .int 1000000000000) rfl m2 ⟨_, rfl⟩))))) pa_nil))))), ?_⟩
    refine ⟨_, rfl, _, _, _, _, _, rfl, .ty _, .base (.lst ha), kit_ty (r := true) (by decide +kernel), true, rfl, ?_⟩
    refine iteF ?_
    refine ⟨_, rfl, a, _, rfl, .inl (SqL.of ha), _, rfl, _, _, rfl, rfl, _, rfl, ?_⟩
    refine iteFb (decide_eq_false (by rw [List.length_map]; omega)) ?_
    refine ⟨_, rfl, a, rfl, ⟨_, SqL.of ha⟩, fun D hD => lc_list (a := a) (xs := gs.map V.int) (fun i H' => Same H H' ∧ H' D = some (.lst ((List.replicate i true).map V.bl))) ⟨?_, upd_same⟩ (fun i H' _ p => p.1.seq (SqL.of ha)) (fun i x H' hx p => ?_) (fun H' p => ?_)⟩
    · intro b o e
      rw [upd_ne (ne_of_none e hD)]
      exact e
    · obtain ⟨g, hg, rfl⟩ : ∃ g, gs[i]? = some g ∧ x = .int g := by
        rw [List.getElem?_map] at hx
        cases e : gs[i]? with
        | none => rw [e] at hx; cases hx
        | some g => rw [e] at hx; exact ⟨g, rfl, (Option.some.inj hx).symm⟩
      have hb := ok.2 g (List.mem_of_getElem? hg)
      have hi : i < gs.length := (List.getElem?_eq_some_iff.mp hg).1
      refine ⟨rfl, ?_⟩
      refine yes_t (iteT ?_)
      refine ⟨_, rfl, g, rfl, true, rfl, iteT ?_⟩
      refine ⟨_, rfl, _, _, rfl, rfl, _, rfl, iteTb (decide_eq_true hb.1) ?_⟩
      refine ⟨_, _, rfl, rfl, _, p.2, ?_, fun b o e => ?_, ?_⟩
      · rw [List.length_map, List.length_replicate]
        exact small1000 (by have := ok.1; omega)
      · rw [upd_ne (ne_of_none e hD)]
        exact p.1 b o e
      · rw [upd_same, List.replicate_succ', List.map_append]
        show some (HO.lst (List.map V.bl (List.replicate i true) ++ [V.bl (decide (g ≤ 1000000000000))])) = _
        rw [decide_eq_true hb.2]
        rfl
    · refine ⟨D, _, rfl, SqL.of p.2, ?_⟩
      have e : (List.replicate (gs.map V.int).length true).all id = true := by
        rw [List.all_eq_true]
        intro x hx
        rw [(List.mem_replicate.mp hx).2]
        rfl
      rw [e]
      exact k H' p.1

/-! ### _is_tail -/
def spIsTail : Sp := fun vs H Q _ => ∃ (t : Addr) (tl : Tl) (n : Nat), vs = [.ref t, .int (n : Int)] ∧ H t = some (.tup tl.vs) ∧ TlOk n tl ∧ ∀ H', Same H H' → Q (.bl true) H'
theorem scIsTail : FnScope ["value", "many"] ["value", "many"] (defScope s_is_tail) := ⟨rfl, rfl, rfl, by decide +kernel, rfl, by decide +kernel, by decide +kernel⟩
theorem same_new {H : Hp} {p : Addr} {o : HO} (h : H p = none) : Same H (upd H p o) := fun b u e => by
  rw [upd_ne (ne_of_none e h)]
  exact e
theorem ok_isTail {f C fi : Addr} {fd fdi : FuncData} (F : Fun K "_is_tail" "_is_tail" s_is_tail f fd) (T : Txt K mg C) (FI : Fun K "is_integer" "is_integer" s_is_integer fi fdi) (bI : Binds K fdi ["value"] []) (mI : mg "is_integer" = some (.ref fi)) : FnOk P w K mg base CX0 2 f fd ["value", "many"] spIsTail := by
  have GI : FnOk P w K mg base CX0 1 fi fdi ["value"] spIsInt := ok_isInt FI T
  obtain ⟨t1, m1⟩ := T.mFact
  refine F.ok scIsTail (fun vs H Q E h => ?_) (fun cdv A outer s H vs Q E hr h => ?_)
  · obtain ⟨t, tl, n, rfl, _⟩ := h
    rfl
  · obtain ⟨t, tl, n, rfl, ht, ok, k⟩ := h
    refine ⟨_, (pss_cons (ps_if (PW.pt (pw_or (pt_not (pt_val (pe_callB call_isi (by rfl) T.isi (by decide +kernel) (pa_cons (pv 0) (pa_cons (pe_bltn (v := .ty "tuple") (by rfl) T.tuple (by decide +kernel) rfl) pa_nil))))) (pw_or1 (pt_cmpR op_notIn_seq (pe_callB call_len_seq (by rfl) T.len (by decide +kernel) (pa_cons (pv 0) pa_nil)) (pe_tup (pa_cons pe_int (pa_cons pe_int pa_nil))) (by rfl))))) (pss_one (ps_ret pe_bl)) pss_nil) (pss_cons (ps_if (pt_not (pt_val (pe_callB call_isi (by rfl) T.isi (by decide +kernel) (pa_cons (pe_ix ix_tup (pv 0) pe_int (fun _ _ => rfl)) (pa_cons (pe_bltn (v := .ty "str") (by rfl) T.str (by decide +kernel) rfl) pa_nil))))) (pss_one (ps_ret pe_bl)) pss_nil) (pss_cons (ps_if (pt_cmpR op_eq (pe_callB call_len_seq (by rfl) T.len (by decide +kernel) (pa_cons (pv 0) pa_nil)) pe_int (nomark _)) (pss_one (ps_ret (pe_cmpR op_eq (pe_ix ix_tup (pv 0) pe_int (fun _ _ => rfl)) pe_str (nomark _)))) pss_nil) (pss_cons (ps_if (pt_not (pt_val (pe_call GI hr rfl mI FI.kp bI .nil pass0 (pa_cons (pe_ix ix_tup (pv 0) pe_int (fun _ _ => rfl)) pa_nil)))) (pss_one (ps_ret pe_bl)) pss_nil) (pss_cons (ps_if (pt_cmpR op_eq (pe_ix ix_tup (pv 0) pe_int (fun _ _ => rfl)) pe_str (nomark _)) (pss_one (ps_ret (pe_and (pe_cmpR op_gt (pv 1) pe_int (nomark _)) (pe_one (pe_chain op_le op_le pe_int (pe_ix ix_tup (pv 0) pe_int (fun _ _ => rfl)) (pe_glob (v := .int 1000) rfl m1 ⟨_, rfl⟩)))))) pss_nil) (pss_one (ps_ret (pe_and (pe_cmpR op_eq (pe_ix ix_tup (pv 0) pe_int (fun _ _ => rfl)) pe_str (nomark _)) (pe_one (pe_chain op_le op_le pe_int (pe_ix ix_tup (pv 0) pe_int (fun _ _ => rfl)) (pv 1))))))))))), ?_⟩
    refine ⟨_, rfl, _, _, _, _, _, rfl, .ty _, .base (.tup ht), kit_ty (r := true) (by decide +kernel), true, rfl, ?_⟩
    refine iteF ?_
    refine ⟨_, rfl, t, _, rfl, .inr (SqT.of ht), by show 2 ≤ sizeLine; decide, fun q hq => ?_⟩
    have hS : Same H (upd H q (.tup [.int 1, .int 2])) := same_new hq
    have ht2 := hS t _ ht
    refine ⟨q, _, rfl, .inr (SqT.of upd_same), rfl, rfl, _, rfl, ?_⟩
    cases tl with
    | fin =>
      refine iteFb (by decide +kernel) ?_
      refine ⟨_, rfl, t, _, _, _, rfl, rfl, SqT.of ht2, atI_nat (j := 0) rfl, _, _, _, _, _, rfl, .ty _, .base (.str _), kit_ty (r := true) (by decide +kernel), true, rfl, iteF ?_⟩
      refine ⟨_, rfl, t, _, rfl, .inr (SqT.of ht2), rfl, _, rfl, iteTb (by decide +kernel) ?_⟩
      refine ⟨_, rfl, t, _, _, _, rfl, rfl, SqT.of ht2, atI_nat (j := 0) rfl, rfl, ?_⟩
      exact k _ hS
    | times b =>
      refine iteFb (by show (!inV (V.int 2) [V.int 1, V.int 2]) = false; decide +kernel) ?_
      refine ⟨_, rfl, t, _, _, _, rfl, rfl, SqT.of ht2, atI_nat (j := 0) rfl, _, _, _, _, _, rfl, .ty _, .base (.str _), kit_ty (r := true) (by decide +kernel), true, rfl, iteF ?_⟩
      refine ⟨_, rfl, t, _, rfl, .inr (SqT.of ht2), rfl, _, rfl, iteFb (by show decide (V.int 2 = V.int 1) = false; decide +kernel) ?_⟩
      refine ⟨_, rfl, t, _, _, _, rfl, rfl, SqT.of ht2, atI_nat (j := 1) rfl, b, rfl, true, rfl, iteF ?_⟩
      refine ⟨_, rfl, t, _, _, _, rfl, rfl, SqT.of ht2, atI_nat (j := 0) rfl, rfl, _, rfl, iteTb (by decide +kernel) ?_⟩
      refine ⟨_, rfl, _, _, rfl, rfl, _, rfl, iteTb (decide_eq_true (by have := ok.1; omega)) ?_⟩
      refine ⟨_, rfl, t, _, _, _, rfl, rfl, SqT.of ht2, atI_nat (j := 1) rfl, _, _, rfl, rfl, _, rfl, iteTb (decide_eq_true ok.2.1) ?_⟩
      refine ⟨_, _, rfl, rfl, ?_⟩
      show Q (.bl (decide (b ≤ 1000))) _
      rw [decide_eq_true ok.2.2]
      exact k _ hS
    | rep m =>
      refine iteFb (by show (!inV (V.int 2) [V.int 1, V.int 2]) = false; decide +kernel) ?_
      refine ⟨_, rfl, t, _, _, _, rfl, rfl, SqT.of ht2, atI_nat (j := 0) rfl, _, _, _, _, _, rfl, .ty _, .base (.str _), kit_ty (r := true) (by decide +kernel), true, rfl, iteF ?_⟩
      refine ⟨_, rfl, t, _, rfl, .inr (SqT.of ht2), rfl, _, rfl, iteFb (by show decide (V.int 2 = V.int 1) = false; decide +kernel) ?_⟩
      refine ⟨_, rfl, t, _, _, _, rfl, rfl, SqT.of ht2, atI_nat (j := 1) rfl, _, rfl, true, rfl, iteF ?_⟩
      refine ⟨_, rfl, t, _, _, _, rfl, rfl, SqT.of ht2, atI_nat (j := 0) rfl, rfl, _, rfl, iteFb (by decide +kernel) ?_⟩
      refine ⟨_, rfl, t, _, _, _, rfl, rfl, SqT.of ht2, atI_nat (j := 0) rfl, rfl, true, by decide +kernel, iteT ?_⟩
      refine ⟨_, rfl, t, _, _, _, rfl, rfl, SqT.of ht2, atI_nat (j := 1) rfl, _, _, rfl, rfl, _, rfl, iteTb (decide_eq_true (by have := ok.1; omega)) ?_⟩
      refine ⟨_, rfl, _, _, rfl, rfl, ?_⟩
      show Q (.bl (decide (((m : Nat) : Int) ≤ (n : Int)))) _
      rw [decide_eq_true (show ((m : Nat) : Int) ≤ (n : Int) by have := ok.2; omega)]
      exact k _ hS
end
end RS
namespace RS
open PySem L2
theorem kGT : ¬ (("_gaps" : Str) = "_tail") := by decide +kernel
theorem kGO : ¬ (("_gaps" : Str) = "_offsets") := by decide +kernel
theorem kTO : ¬ (("_tail" : Str) = "_offsets") := by decide +kernel
def flds (g t o : Addr) : List (Str × V) := putF "_offsets" (.ref o) (putF "_tail" (.ref t) (putF "_gaps" (.ref g) []))
theorem flds_g (g t o : Addr) : (flds g t o).lookup ("_gaps" : Str) = some (.ref g) := by
  unfold flds
  rw [lookup_putF, if_neg kGO, lookup_putF, if_neg kGT, lookup_putF, if_pos rfl]
theorem flds_t (g t o : Addr) : (flds g t o).lookup ("_tail" : Str) = some (.ref t) := by
  unfold flds
  rw [lookup_putF, if_neg kTO, lookup_putF, if_pos rfl]
theorem flds_o (g t o : Addr) : (flds g t o).lookup ("_offsets" : Str) = some (.ref o) := by
  unfold flds
  rw [lookup_putF, if_pos rfl]
theorem flds_no (g t o : Addr) {m : Str} (h1 : ¬ m = "_offsets") (h2 : ¬ m = "_tail") (h3 : ¬ m = "_gaps") : (flds g t o).lookup m = none := by
  unfold flds
  rw [lookup_putF, if_neg h1, lookup_putF, if_neg h2, lookup_putF, if_neg h3]
  rfl
/-- a rule stands at p -/
structure RuleAt (C : Addr) (H : Hp) (p g t o : Addr) (gs : List Int) (tl : Tl) : Prop where
  ob : ∃ dx, H p = some (.ins C dx (flds g t o))
  hg : H g = some (.lst (gs.map V.int))
  ht : H t = some (.tup tl.vs)
  ho : H o = some (.lst ((offs gs).map V.int))
  okG : GapsOk gs
  okT : TlOk gs.length tl
theorem RuleAt.mono {C : Addr} {H H' : Hp} {p g t o : Addr} {gs : List Int} {tl : Tl} (R : RuleAt C H p g t o gs tl) (h : Same H H') : RuleAt C H' p g t o gs tl :=
  ⟨let ⟨dx, e⟩ := R.ob; ⟨dx, h _ _ e⟩, h _ _ R.hg, h _ _ R.ht, h _ _ R.ho, R.okG, R.okT⟩
theorem map_of {xs : List Int} {i : Nat} {x : V} (hx : (xs.map V.int)[i]? = some x) : ∃ g, xs[i]? = some g ∧ x = .int g := by
  rw [List.getElem?_map] at hx
  cases e : xs[i]? with
  | none => rw [e] at hx; cases hx
  | some g => rw [e] at hx; exact ⟨g, rfl, (Option.some.inj hx).symm⟩

section
variable {P : Program} {w : World} {K : PySem.W.Frag} {mg : Str → Option Value} {base : Heap}
/-! ### _sums -/
def spSums : Sp := fun vs H Q _ => ∃ a gs, vs = [.ref a] ∧ H a = some (.lst (gs.map V.int)) ∧ gs.length ≤ 100 ∧ ∀ p H', H p = none → Same H H' → H' p = some (.lst ((offs gs).map V.int)) → Q (.ref p) H'
theorem scSums : FnScope ["gaps", "offsets", "gap"] ["gaps"] (defScope s_sums) := ⟨rfl, rfl, rfl, by decide +kernel, rfl, by decide +kernel, by decide +kernel⟩
theorem ok_sums {f : Addr} {fd : FuncData} (F : Fun K "sums" "sums" s_sums f fd) : FnOk P w K mg base CX0 1 f fd ["gaps"] spSums := by
  refine F.ok scSums (fun vs H Q E h => ?_) (fun cdv A outer s H vs Q E hr h => ?_)
  · obtain ⟨a, gs, rfl, _⟩ := h
    rfl
  · obtain ⟨a, gs, rfl, ha, hn, k⟩ := h
    refine ⟨_, (pss_cons (ps_set (i := 1) scSums.nd rfl (Or.inl rfl) (pe_lst (pa_cons pe_int pa_nil))) (pss_cons (ps_for PassesOwn.never rfl (pi_list (pv 0)) (pg_name (i := 2) scSums.nd rfl (Or.inl rfl)) (pss_one (ps_expr (pe_bm PySem.F.plainAttrs_list PySem.F.slot_list_append PySem.F.type_list_append mt_append (pv 1) (pa_cons (pe_op op_add (pe_ix ix_list (pv 1) (pe_un un_neg pe_int) (fun _ _ => rfl)) (pv 2)) pa_nil))))) (pss_one (ps_ret (pv 1))))), ?_⟩
    refine ⟨by show 1 ≤ sizeLine; decide, fun l hl => ?_⟩
    have S0 : Same H (upd H l (.lst [.int 0])) := same_new hl
    refine ⟨_, rfl, a, rfl, ⟨_, SqL.of (S0 _ _ ha)⟩, for_list (a := a) (xs := gs.map V.int) (fun i σ H' => ∃ v, σ = [some (.ref a), some (.ref l), v] ∧ Same H H' ∧ H' l = some (.lst (((List.range (i + 1)).map (pre gs)).map V.int))) ⟨none, rfl, S0, upd_same⟩ (fun i σ H' _ ⟨v, _, S, _⟩ => SqL.of (S _ _ ha)) ?_ ?_⟩
    · rintro i x σ H' hx ⟨v, rfl, S, hl'⟩
      obtain ⟨g, hg, rfl⟩ := map_of hx
      have hi : i < gs.length := (List.getElem?_eq_some_iff.mp hg).1
      have hz : (((List.range (i + 1)).map (pre gs)).map V.int).length = i + 1 := by simp
      refine ⟨_, rfl, .inl ⟨rfl, _, SqL.of hl'⟩, _, rfl, _, rfl, l, _, _, _, rfl, rfl, SqL.of hl', at_back1 (v := .int (pre gs i)) (by rw [hz]; omega) ?_, _, rfl, _, _, rfl, rfl, l, _, _, rfl, rfl, hl', by rw [hz]; exact small1000 (by omega), ?_⟩
      · rw [hz, List.getElem?_map, List.getElem?_map, List.getElem?_range (by omega)]
        rfl
      · refine ⟨_, rfl, fun b o e => ?_, ?_⟩
        · rw [upd_ne (ne_of_none e hl)]
          exact S b o e
        · rw [upd_same, List.range_succ (n := i + 1), List.map_append, List.map_append]
          show _ = some (HO.lst (_ ++ [V.int (pre gs (i + 1))]))
          rw [pre_succ gs hg]
    · rintro σ H' ⟨v, rfl, S, hl'⟩
      rw [List.length_map] at hl'
      exact ⟨_, rfl, k l H' hl S hl'⟩

/-! ### _power -/
def spPower : Sp := fun vs H Q _ => ∃ (b : Int) (e : Nat), vs = [.int b, .int (e : Int)] ∧ 0 ≤ b ∧ b < 1024 ∧ e ≤ 1024 ∧ Q (.int (b ^ e)) H
theorem scPower : FnScope ["base", "exponent", "result"] ["base", "exponent"] (defScope s_power) := ⟨rfl, rfl, rfl, by decide +kernel, rfl, by decide +kernel, by decide +kernel⟩
theorem pow_small {b : Int} {n : Nat} (h0 : 0 ≤ b) (h1 : b < 1024) (hn : n ≤ 2048) : (b ^ n).natAbs < 2 ^ 20481 := by
  rw [Int.natAbs_pow]
  have h2 : b.natAbs ≤ 2 ^ 10 := by omega
  have h3 : b.natAbs ^ n ≤ (2 ^ 10) ^ n := Nat.pow_le_pow_left h2 n
  rw [← Nat.pow_mul] at h3
  have h4 : 2 ^ (10 * n) < 2 ^ 20481 := Nat.pow_lt_pow_right (by decide) (by omega)
  omega
theorem half_mod (e k : Nat) : e % 2 ^ (k + 1) = e % 2 ^ k + 2 ^ k * (e / 2 ^ k % 2) := by
  rw [Nat.pow_succ, Nat.mod_mul]
theorem half_div (e k : Nat) : e / 2 ^ k / 2 = e / 2 ^ (k + 1) := by
  rw [Nat.pow_succ, Nat.div_div_eq_div_mul]
theorem ok_power {f : Addr} {fd : FuncData} (F : Fun K "_power" "_power" s_power f fd) : FnOk P w K mg base CX0 1 f fd ["base", "exponent"] spPower := by
  refine F.ok scPower (fun vs H Q E h => ?_) (fun cdv A outer s H vs Q E hr h => ?_)
  · obtain ⟨b, e, rfl, _⟩ := h
    rfl
  · obtain ⟨b, e, rfl, b0, b1, he, k⟩ := h
    refine ⟨_, (pss_cons (ps_set (i := 2) scPower.nd rfl (Or.inl rfl) pe_int) (pss_cons (ps_while PassesOwn.never (pt_cmpR op_gt (pv 1) pe_int (nomark _)) (pss_cons (ps_if (pt_cmpR op_eq (pe_op op_odd (pv 1) pe_int) pe_int (nomark _)) (pss_one (ps_set (i := 2) scPower.nd rfl (Or.inl rfl) (pe_op op_mulW (pv 2) (pv 0)))) pss_nil) (pss_cons (ps_set (i := 0) scPower.nd rfl (Or.inl rfl) (pe_op op_mulW (pv 0) (pv 0))) (pss_one (ps_set (i := 1) scPower.nd rfl (Or.inl rfl) (pe_op op_halfN (pv 1) pe_int)))))) (pss_one (ps_ret (pv 2))))), ?_⟩
    refine ⟨fun m σ H' => H' = H ∧ ∃ j, m = e / 2 ^ j ∧ σ = [some (.int (b ^ (2 ^ j))), some (.int ((e / 2 ^ j : Nat) : Int)), some (.int (b ^ (e % 2 ^ j)))], ⟨e, rfl, 0, by simp, by simp [L2.start, Nat.mod_one]; rw [Int.pow_succ, Int.pow_zero, Int.one_mul]⟩, ?_⟩
    rintro m σ H' ⟨rfl, j, rfl, rfl⟩
    refine ⟨_, rfl, _, _, rfl, rfl, _, rfl, ?_⟩
    by_cases hz : 0 < e / 2 ^ j
    · refine iteTb (decide_eq_true (by omega)) ?_
      have hj : 2 ^ j ≤ e := by
        by_cases hlt : e < 2 ^ j
        · rw [Nat.div_eq_of_lt hlt] at hz; omega
        · omega
      have hj1 : (b ^ (2 ^ j)).natAbs < 2 ^ 20481 := pow_small b0 b1 (by omega)
      have hm : e % 2 ^ j < 2 ^ j := Nat.mod_lt _ (Nat.pow_pos (by decide))
      have hr1 : (b ^ (e % 2 ^ j)).natAbs < 2 ^ 20481 := pow_small b0 b1 (by omega)
      refine ⟨fun σ' H2 => H2 = H' ∧ σ' = [some (.int (b ^ (2 ^ (j + 1)))), some (.int ((e / 2 ^ (j + 1) : Nat) : Int)), some (.int (b ^ (e % 2 ^ (j + 1))))], ?_, ?_⟩
      · rintro σ' H2 ⟨rfl, rfl⟩
        refine ⟨e / 2 ^ (j + 1), ?_, rfl, j + 1, rfl, rfl⟩
        rw [← half_div]
        omega
      · have e2 : b ^ 2 ^ j * b ^ 2 ^ j = b ^ 2 ^ (j + 1) := by
          rw [← Int.pow_add, Nat.pow_succ, Nat.mul_two]
        refine ⟨_, rfl, e / 2 ^ j, rfl, rfl, rfl, _, rfl, ?_⟩
        rcases Nat.mod_two_eq_zero_or_one (e / 2 ^ j) with h2 | h2
        · refine iteFb (decide_eq_false (by rw [h2]; intro z; cases z)) ?_
          refine ⟨_, rfl, _, rfl, _, _, rfl, rfl, wide_mul hj1 hj1 (by decide) (by decide) (by decide), ?_⟩
          refine ⟨_, rfl, e / 2 ^ j, rfl, rfl, rfl, ?_⟩
          rw [half_mod, h2, Nat.mul_zero, Nat.add_zero, ← half_div, ← e2]
          rfl
        · refine iteTb (decide_eq_true (by rw [h2]; rfl)) ?_
          refine ⟨_, rfl, _, rfl, _, _, rfl, rfl, wide_mul hr1 hj1 (by decide) (by decide) (by decide), ?_⟩
          refine ⟨_, rfl, _, rfl, _, _, rfl, rfl, wide_mul hj1 hj1 (by decide) (by decide) (by decide), ?_⟩
          refine ⟨_, rfl, e / 2 ^ j, rfl, rfl, rfl, ?_⟩
          rw [half_mod, h2, Nat.mul_one, Int.pow_add, ← half_div, ← e2]
          rfl
    · refine iteFb (decide_eq_false (by omega)) ?_
      have hlt : e % 2 ^ j = e := by
        refine Nat.mod_eq_of_lt ?_
        have := Nat.lt_div_mul_add (a := e) (b := 2 ^ j) (Nat.pow_pos (by decide))
        have h0 : e / 2 ^ j = 0 := Nat.eq_zero_of_not_pos hz
        rw [h0] at this
        omega
      refine ⟨_, rfl, ?_⟩
      rw [hlt]
      exact k
end
end RS
namespace RS
open PySem L2
def Tl.word : Tl → Str
  | .fin => "end"
  | .times _ => "times"
  | .rep _ => "repeat"
theorem Tl.at0 (tl : Tl) : atI tl.vs 0 = some (.str tl.word) := by cases tl <;> exact atI_nat (j := 0) rfl
theorem wEE : decide (V.str "end" = V.str "end") = true := by decide +kernel
theorem wET : decide (V.str "end" = V.str "times") = false := by decide +kernel
theorem wER : decide (V.str "end" = V.str "repeat") = false := by decide +kernel
theorem wTE : decide (V.str "times" = V.str "end") = false := by decide +kernel
theorem wTT : decide (V.str "times" = V.str "times") = true := by decide +kernel
theorem wTR : decide (V.str "times" = V.str "repeat") = false := by decide +kernel
theorem wRE : decide (V.str "repeat" = V.str "end") = false := by decide +kernel
theorem wRT : decide (V.str "repeat" = V.str "times") = false := by decide +kernel
theorem wRR : decide (V.str "repeat" = V.str "repeat") = true := by decide +kernel
def lastG (gs : List Int) : Int := gs.getD (gs.length - 1) 0
def per (gs : List Int) (m : Nat) : Int := pre gs gs.length - pre gs (gs.length - m)
def off (gs : List Int) (tl : Tl) (n : Nat) : Int :=
  if n ≤ gs.length then pre gs n else match tl with
  | .fin => 0
  | .times b => pre gs gs.length + lastG gs * b * (b ^ (n - gs.length) - 1) / (b - 1)
  | .rep m => pre gs (gs.length - m + (n - gs.length) % m) + (((n - gs.length) / m : Nat) + 1) * per gs m
def gapf (gs : List Int) (tl : Tl) (n : Nat) : Int :=
  if n < gs.length then gs.getD n 0 else match tl with
  | .fin => 0
  | .times b => lastG gs * b ^ (n - gs.length + 1)
  | .rep m => gs.getD (gs.length - m + (n - gs.length) % m) 0
/-- an attempt that is answered -/
def AttOk (gs : List Int) (tl : Tl) (n : Nat) : Prop := match tl with
  | .fin => n ≤ gs.length
  | .times _ => n ≤ 1000
  | .rep _ => True
theorem AttOk.low {gs : List Int} {tl : Tl} (okG : GapsOk gs) {n : Nat} (h : n ≤ gs.length) : AttOk gs tl n := by
  cases tl with
  | fin => exact h
  | times b => have := okG.1; show n ≤ 1000; omega
  | rep m => exact True.intro
theorem getD_get {gs : List Int} {k : Nat} (h : k < gs.length) : gs[k]? = some (gs.getD k 0) := by
  rw [List.getD_eq_getElem?_getD, List.getElem?_eq_getElem h]
  rfl
theorem gap_bd {gs : List Int} (ok : GapsOk gs) {k : Nat} (h : k < gs.length) : 1 ≤ gs.getD k 0 ∧ gs.getD k 0 ≤ 1000000000000 := ok.2 _ (List.mem_of_getElem? (getD_get h))
theorem pre_le {gs : List Int} (ok : GapsOk gs) : ∀ k, k ≤ gs.length → (k : Int) ≤ pre gs k ∧ pre gs k ≤ 1000000000000 * k
  | 0, _ => by rw [pre_zero]; omega
  | k + 1, h => by
    have ih := pre_le ok k (by omega)
    have b := gap_bd ok (k := k) (by omega)
    rw [pre_succ gs (getD_get (by omega))]
    omega
theorem pre_mono {gs : List Int} (ok : GapsOk gs) (i : Nat) : ∀ k, i + k ≤ gs.length → pre gs i + k ≤ pre gs (i + k)
  | 0, _ => by simp
  | k + 1, h => by
    have ih := pre_mono ok i k (by omega)
    have b := gap_bd ok (k := i + k) (by omega)
    rw [show i + (k + 1) = (i + k) + 1 by omega, pre_succ gs (getD_get (by omega))]
    omega
theorem per_bd {gs : List Int} (ok : GapsOk gs) {m : Nat} (h1 : 1 ≤ m) (h2 : m ≤ gs.length) : (m : Int) ≤ per gs m ∧ per gs m ≤ 20000000000000 := by
  have a := pre_mono ok (gs.length - m) m (by omega)
  have b := pre_le ok (gs.length - m) (by omega)
  have c := pre_le ok gs.length (Nat.le_refl _)
  have d := ok.1
  rw [show gs.length - m + m = gs.length by omega] at a
  unfold per
  omega

section
variable {P : Program} {w : World} {K : PySem.W.Frag} {mg : Str → Option Value} {base : Heap}
/-! ### a rule's attributes, read -/
section
variable {C p g t o : Addr} {gs : List Int} {tl : Tl} {H : Hp} {σ : L2.St} {i : Nat}
theorem rdG {Q : VK} (T : Txt K mg C) (R : RuleAt C H p g t o gs tl) (hi : σ[i]? = some (some (.ref p))) (q : Q (.ref g) H) : tFld K (tVar i) "_gaps" σ H Q := by
  obtain ⟨dx, h⟩ := R.ob
  exact ⟨_, hi, p, C, dx, _, _, rfl, h, T.cl, T.nG, flds_g _ _ _, q⟩
theorem rdT {Q : VK} (T : Txt K mg C) (R : RuleAt C H p g t o gs tl) (hi : σ[i]? = some (some (.ref p))) (q : Q (.ref t) H) : tFld K (tVar i) "_tail" σ H Q := by
  obtain ⟨dx, h⟩ := R.ob
  exact ⟨_, hi, p, C, dx, _, _, rfl, h, T.cl, T.nT, flds_t _ _ _, q⟩
theorem rdO {Q : VK} (T : Txt K mg C) (R : RuleAt C H p g t o gs tl) (hi : σ[i]? = some (some (.ref p))) (q : Q (.ref o) H) : tFld K (tVar i) "_offsets" σ H Q := by
  obtain ⟨dx, h⟩ := R.ob
  exact ⟨_, hi, p, C, dx, _, _, rfl, h, T.cl, T.nO, flds_o _ _ _, q⟩
theorem rdOx {te : TE} {Q : VK} (T : Txt K mg C) (R : RuleAt C H p g t o gs tl) (hi : σ[i]? = some (some (.ref p))) (q : te σ H fun y H2 => rIxL K (.ref o) y H2 Q) : tOp (rIxL K) (tFld K (tVar i) "_offsets") te σ H Q := by
  dsimp only [tOp]
  exact rdO T R hi q
theorem rdGx {te : TE} {Q : VK} (T : Txt K mg C) (R : RuleAt C H p g t o gs tl) (hi : σ[i]? = some (some (.ref p))) (q : te σ H fun y H2 => rIxL K (.ref g) y H2 Q) : tOp (rIxL K) (tFld K (tVar i) "_gaps") te σ H Q := by
  dsimp only [tOp]
  exact rdG T R hi q
theorem rdIs {s : Str} {Q : Bool → Hp → Prop} (T : Txt K mg C) (R : RuleAt C H p g t o gs tl) (hi : σ[i]? = some (some (.ref p))) (q : Q (decide (V.str tl.word = V.str s)) H) :
    tTest (tOp rEq (tOp (rIxT K) (tFld K (tVar i) "_tail") (tC (.int 0))) (tC (.str s))) σ H Q := by
  dsimp only [tTest, tOp]
  exact rdT T R hi ⟨t, _, _, _, rfl, rfl, SqT.of R.ht, tl.at0, rfl, _, rfl, q⟩
theorem rdNe {s : Str} {Q : Bool → Hp → Prop} (T : Txt K mg C) (R : RuleAt C H p g t o gs tl) (hi : σ[i]? = some (some (.ref p))) (q : Q (!decide (V.str tl.word = V.str s)) H) :
    tTest (tOp rNe (tOp (rIxT K) (tFld K (tVar i) "_tail") (tC (.int 0))) (tC (.str s))) σ H Q := by
  dsimp only [tTest, tOp]
  exact rdT T R hi ⟨t, _, _, _, rfl, rfl, SqT.of R.ht, tl.at0, rfl, _, rfl, q⟩
theorem rdB {b : Int} {Q : VK} (T : Txt K mg C) (R : RuleAt C H p g t o gs (.times b)) (hi : σ[i]? = some (some (.ref p))) (q : Q (.int b) H) : tOp (rIxT K) (tFld K (tVar i) "_tail") (tC (.int 1)) σ H Q :=
  rdT T R hi ⟨t, _, _, _, rfl, rfl, SqT.of R.ht, atI_nat (j := 1) rfl, q⟩
theorem rdN {m : Nat} {Q : VK} (T : Txt K mg C) (R : RuleAt C H p g t o gs (.rep m)) (hi : σ[i]? = some (some (.ref p))) (q : Q (.int (m : Int)) H) : tOp (rIxT K) (tFld K (tVar i) "_tail") (tC (.int 1)) σ H Q :=
  rdT T R hi ⟨t, _, _, _, rfl, rfl, SqT.of R.ht, atI_nat (j := 1) rfl, q⟩
theorem rdLast {Q : VK} (T : Txt K mg C) (R : RuleAt C H p g t o gs tl) (hi : σ[i]? = some (some (.ref p))) (h0 : 0 < gs.length) (q : Q (.int (lastG gs)) H) :
    tOp (rIxL K) (tFld K (tVar i) "_gaps") (tUn (rU fun i => .int (-i)) (tC (.int 1))) σ H Q :=
  rdG T R hi ⟨_, rfl, g, _, _, _, rfl, rfl, SqL.of R.hg, at_back1 (by rw [List.length_map]; exact h0) (by rw [List.length_map, List.getElem?_map, getD_get (by omega)]; rfl), q⟩
theorem rdLastO {Q : VK} (T : Txt K mg C) (R : RuleAt C H p g t o gs tl) (hi : σ[i]? = some (some (.ref p))) (q : Q (.int (pre gs gs.length)) H) :
    tOp (rIxL K) (tFld K (tVar i) "_offsets") (tUn (rU fun i => .int (-i)) (tC (.int 1))) σ H Q :=
  rdO T R hi ⟨_, rfl, o, _, _, _, rfl, rfl, SqL.of R.ho, at_back1 (by rw [List.length_map, offs_len]; omega) (by rw [List.length_map, offs_len, List.getElem?_map, offs_get gs (by omega)]; rfl), q⟩
end
/-! ### Rule.__init__ -/
def spInit (C : Addr) : Sp := fun vs H Q _ => ∃ (p dx a t : Addr) (gs : List Int) (tl : Tl), vs = [.ref p, .ref a, .ref t] ∧ H p = some (.ins C dx []) ∧ H a = some (.lst (gs.map V.int)) ∧ H t = some (.tup tl.vs) ∧ GapsOk gs ∧ TlOk gs.length tl ∧
  ∀ (g o : Addr) (H' : Hp), H g = none → H o = none → (∀ b u, H b = some u → b ≠ p → H' b = some u) → RuleAt C H' p g t o gs tl → Q .non H'
theorem scInit : FnScope ["self", "gaps", "tail"] ["self", "gaps", "tail"] (defScope s_Rule_ddinitdd) := ⟨rfl, rfl, rfl, by decide +kernel, rfl, by decide +kernel, by decide +kernel⟩
theorem ok_init {f C fA fB fS fi : Addr} {fd fdA fdB fdS fdi : FuncData} (F : Fun K "__init__" "Rule.__init__" s_Rule_ddinitdd f fd) (T : Txt K mg C) (FI : Fun K "is_integer" "is_integer" s_is_integer fi fdi) (bI : Binds K fdi ["value"] []) (mI : mg "is_integer" = some (.ref fi))
    (FA : Fun K "are_gaps" "are_gaps" s_are_gaps fA fdA) (bA : Binds K fdA ["value", "most"] []) (mA : mg "are_gaps" = some (.ref fA)) (FB : Fun K "_is_tail" "_is_tail" s_is_tail fB fdB) (bB : Binds K fdB ["value", "many"] []) (mB : mg "_is_tail" = some (.ref fB))
    (FS : Fun K "sums" "sums" s_sums fS fdS) (bS : Binds K fdS ["gaps"] []) (mS : mg "sums" = some (.ref fS)) : FnOk P w K mg base CX0 3 f fd ["self", "gaps", "tail"] (spInit C) := by
  have GA : FnOk P w K mg base CX0 2 fA fdA ["value", "most"] spAreGaps := ok_areGaps FA T FI bI mI
  have GB : FnOk P w K mg base CX0 2 fB fdB ["value", "many"] spIsTail := ok_isTail FB T FI bI mI
  have GS : FnOk P w K mg base CX0 1 fS fdS ["gaps"] spSums := ok_sums FS
  obtain ⟨t1, m1⟩ := T.mMost
  refine F.ok scInit (fun vs H Q E h => ?_) (fun cdv A outer s H vs Q E hr h => ?_)
  · obtain ⟨p, dx, a, t, gs, tl, rfl, _⟩ := h
    rfl
  · obtain ⟨p, dx, a, t, gs, tl, rfl, hp, ha, ht, okG, okT, k⟩ := h
    refine ⟨_, (pss_cons (ps_if (pt_not (pt_val (pe_call GA hr rfl mA FA.kp bA .nil pass0 (pa_cons (pv 1) (pa_cons (pe_glob (v := .int 20) rfl m1 ⟨_, rfl⟩) pa_nil))))) (pss_one ps_never) pss_nil) (pss_cons (ps_if (pt_not (pt_val (pe_call GB hr rfl mB FB.kp bB .nil pass0 (pa_cons (pv 2) (pa_cons (pe_callB call_len_seq (by rfl) T.len (by decide +kernel) (pa_cons (pv 1) pa_nil)) pa_nil))))) (pss_one ps_never) pss_nil) (pss_cons (ps_fld (pv 0) (pe_callTy call_list_of (by rfl) T.list (by decide +kernel) (pa_cons (pv 1) pa_nil)) rfl) (pss_cons (ps_fld (pv 0) (pe_callTy call_tuple_of (by rfl) T.tuple (by decide +kernel) (pa_cons (pv 2) pa_nil)) rfl) (pss_one (ps_fld (pv 0) (pe_call GS (hr.mono (by decide)) rfl mS FS.kp bS .nil pass0 (pa_cons (pe_fld (pv 0) rfl) pa_nil)) rfl)))))), ?_⟩
    refine ⟨_, rfl, a, gs, 20, rfl, ha, okG, okG.1, fun H1 S1 => ⟨true, rfl, iteF ?_⟩⟩
    refine ⟨_, rfl, _, rfl, a, _, rfl, .inl (SqL.of (S1 _ _ ha)), t, tl, gs.length, ?_, S1 _ _ ht, okT, fun H2 S2 => ⟨true, rfl, iteF ?_⟩⟩
    · rw [List.length_map]
      rfl
    have S := S1.trans S2
    refine ⟨_, rfl, a, _, rfl, .inl (SqL.of (S _ _ ha)), fun g hg2 => ?_⟩
    have hg : H g = none := S.free hg2
    have npg : p ≠ g := ne_of_none hp hg
    have ntg : t ≠ g := ne_of_none ht hg
    have nag : a ≠ g := ne_of_none ha hg
    have npt : t ≠ p := ne_of ht hp (by intro z; cases z)
    have npa : a ≠ p := ne_of ha hp (by intro z; cases z)
    refine ⟨_, rfl, p, C, dx, [], rfl, (by rw [upd_ne npg]; exact S _ _ hp), T.cl, T.nG, (by show 0 < 1000; decide), ?_⟩
    refine ⟨_, rfl, t, _, rfl, .inr ⟨SqT.of (by rw [upd_ne npt, upd_ne ntg]; exact S _ _ ht), ?_⟩⟩
    refine ⟨_, rfl, p, C, dx, _, rfl, upd_same, T.cl, T.nT, (by show 1 < 1000; decide), ?_⟩
    have hgl : (putF "_tail" (.ref t) (putF "_gaps" (.ref g) [])).lookup ("_gaps" : Str) = some (V.ref g) := by
      rw [lookup_putF, if_neg kGT, lookup_putF, if_pos rfl]
    refine ⟨_, rfl, p, C, dx, _, _, rfl, upd_same, T.cl, T.nG, hgl, ?_⟩
    refine ⟨g, gs, rfl, (by rw [upd_ne npg.symm, upd_ne npg.symm, upd_same]), (by have := okG.1; omega), fun o H3 ho S3 ho3 => ?_⟩
    have hp3 := S3 _ _ (upd_same (H := upd (upd H2 g (.lst (gs.map V.int))) p (.ins C dx (putF "_gaps" (.ref g) []))) (a := p) (o := .ins C dx (putF "_tail" (.ref t) (putF "_gaps" (.ref g) []))))
    have npo : p ≠ o := ne_of_none (upd_same (H := upd (upd H2 g (.lst (gs.map V.int))) p (.ins C dx (putF "_gaps" (.ref g) []))) (a := p)) ho
    have ngo : g ≠ o := by
      refine ne_of_none (H := upd (upd (upd H2 g (.lst (gs.map V.int))) p (.ins C dx (putF "_gaps" (.ref g) []))) p (.ins C dx (putF "_tail" (.ref t) (putF "_gaps" (.ref g) [])))) (o := .lst (gs.map V.int)) ?_ ho
      rw [upd_ne npg.symm, upd_ne npg.symm, upd_same]
    have hoH : H o = none := by
      refine S.free ?_
      rw [upd_ne npo.symm, upd_ne npo.symm, upd_ne ngo.symm] at ho
      exact ho
    refine ⟨_, rfl, p, C, dx, _, rfl, hp3, T.cl, T.nO, (by show 2 < 1000; decide), ?_⟩
    refine k g o _ hg hoH (fun b u e nb => ?_) ⟨⟨dx, upd_same⟩, ?_, ?_, ?_, okG, okT⟩
    · rw [upd_ne nb]
      refine S3 _ _ ?_
      rw [upd_ne nb, upd_ne nb, upd_ne (ne_of_none e hg)]
      exact S _ _ e
    · rw [upd_ne npg.symm]
      refine S3 _ _ ?_
      rw [upd_ne npg.symm, upd_ne npg.symm, upd_same]
    · rw [upd_ne npt]
      refine S3 _ _ ?_
      rw [upd_ne npt, upd_ne npt, upd_ne ntg]
      exact S _ _ ht
    · rw [upd_ne npo.symm]
      exact ho3

end
end RS
namespace RS
open PySem L2
section
variable {P : Program} {w : World} {K : PySem.W.Frag} {mg : Str → Option Value} {base : Heap}
/-! ### attempts, _first_repeating, period -/
def attV (gs : List Int) : Tl → V
  | .fin => .int ((gs.length : Int) + 1)
  | _ => .non
def spAtt (C : Addr) : Sp := fun vs H Q _ => ∃ (p g t o : Addr) (gs : List Int) (tl : Tl), vs = [.ref p] ∧ RuleAt C H p g t o gs tl ∧ Q (attV gs tl) H
theorem scSelf_attempts : FnScope ["self"] ["self"] (defScope s_Rule_attempts) := ⟨rfl, rfl, rfl, by decide +kernel, rfl, by decide +kernel, by decide +kernel⟩
theorem ok_attempts {f C : Addr} {fd : FuncData} (F : Fun K "attempts" "Rule.attempts" s_Rule_attempts f fd) (T : Txt K mg C) : FnOk P w K mg base CX0 1 f fd ["self"] (spAtt C) := by
  refine F.ok scSelf_attempts (fun vs H Q E h => ?_) (fun cdv A outer s H vs Q E hr h => ?_)
  · obtain ⟨p, g, t, o, gs, tl, rfl, _⟩ := h
    rfl
  · obtain ⟨p, g, t, o, gs, tl, rfl, R, k⟩ := h
    refine ⟨_, (pss_cons (ps_if (pt_cmpR op_eq (pe_ix ix_tup (pe_fld (pv 0) rfl) pe_int (fun _ _ => rfl)) pe_str (nomark _)) (pss_one (ps_ret (pe_callB call_len_seq (by rfl) T.len (by decide +kernel) (pa_cons (pe_fld (pv 0) rfl) pa_nil)))) pss_nil) (pss_one (ps_ret pe_non))), ?_⟩
    refine rdIs T R rfl ?_
    cases tl with
    | fin =>
      refine iteTb wEE ?_
      refine rdO T R rfl ⟨o, _, rfl, .inl (SqL.of R.ho), ?_⟩
      rw [List.length_map, offs_len]
      exact k
    | times b => exact iteFb wTE k
    | rep m => exact iteFb wRE k
def spFR (C : Addr) : Sp := fun vs H Q _ => ∃ (p g t o : Addr) (gs : List Int) (m : Nat), vs = [.ref p] ∧ RuleAt C H p g t o gs (.rep m) ∧ Q (.int ((gs.length - m : Nat) : Int)) H
theorem scSelf_fr : FnScope ["self"] ["self"] (defScope s_Rule_first_repeating) := ⟨rfl, rfl, rfl, by decide +kernel, rfl, by decide +kernel, by decide +kernel⟩
def frV (gs : List Int) : Tl → V
  | .rep m => .int ((gs.length - m : Nat) : Int)
  | _ => .non
def spFRA (C : Addr) : Sp := fun vs H Q _ => ∃ (p g t o : Addr) (gs : List Int) (tl : Tl), vs = [.ref p] ∧ RuleAt C H p g t o gs tl ∧ Q (frV gs tl) H
theorem ok_frA {f C : Addr} {fd : FuncData} (F : Fun K "first_repeating" "Rule.first_repeating" s_Rule_first_repeating f fd) (T : Txt K mg C) : FnOk P w K mg base CX0 1 f fd ["self"] (spFRA C) := by
  refine F.ok scSelf_fr (fun vs H Q E h => ?_) (fun cdv A outer s H vs Q E hr h => ?_)
  · obtain ⟨p, g, t, o, gs, tl, rfl, _⟩ := h
    rfl
  · obtain ⟨p, g, t, o, gs, tl, rfl, R, k⟩ := h
    refine ⟨_, (pss_cons (ps_if (pt_cmpR op_ne (pe_ix ix_tup (pe_fld (pv 0) rfl) pe_int (fun _ _ => rfl)) pe_str (nomark _)) (pss_one (ps_ret pe_non)) pss_nil) (pss_one (ps_ret (pe_op op_sub (pe_callB call_len_seq (by rfl) T.len (by decide +kernel) (pa_cons (pe_fld (pv 0) rfl) pa_nil)) (pe_ix ix_tup (pe_fld (pv 0) rfl) pe_int (fun _ _ => rfl)))))), ?_⟩
    refine rdNe T R rfl ?_
    cases tl with
    | fin => exact iteTb (congrArg not wER) k
    | times b => exact iteTb (congrArg not wTR) k
    | rep m =>
      refine iteFb (congrArg not wRR) ?_
      refine rdG T R rfl ⟨g, _, rfl, .inl (SqL.of R.hg), rdN T R rfl ⟨_, _, rfl, rfl, ?_⟩⟩
      have e : ((((gs.map V.int).length : Nat) : Int) - (m : Int)) = ((gs.length - m : Nat) : Int) := by
        have := R.okT.2
        rw [List.length_map]
        omega
      have k' : Q (.int ((gs.length - m : Nat) : Int)) H := k
      rw [← e] at k'
      exact k'
theorem ok_fr {f C : Addr} {fd : FuncData} (F : Fun K "first_repeating" "Rule.first_repeating" s_Rule_first_repeating f fd) (T : Txt K mg C) : FnOk P w K mg base CX0 1 f fd ["self"] (spFR C) := by
  refine F.ok scSelf_fr (fun vs H Q E h => ?_) (fun cdv A outer s H vs Q E hr h => ?_)
  · obtain ⟨p, g, t, o, gs, tl, rfl, _⟩ := h
    rfl
  · obtain ⟨p, g, t, o, gs, m, rfl, R, k⟩ := h
    refine ⟨_, (pss_cons (ps_if (pt_cmpR op_ne (pe_ix ix_tup (pe_fld (pv 0) rfl) pe_int (fun _ _ => rfl)) pe_str (nomark _)) (pss_one (ps_ret pe_non)) pss_nil) (pss_one (ps_ret (pe_op op_sub (pe_callB call_len_seq (by rfl) T.len (by decide +kernel) (pa_cons (pe_fld (pv 0) rfl) pa_nil)) (pe_ix ix_tup (pe_fld (pv 0) rfl) pe_int (fun _ _ => rfl)))))), ?_⟩
    refine rdNe T R rfl (iteFb (congrArg not wRR) ?_)
    refine rdG T R rfl ⟨g, _, rfl, .inl (SqL.of R.hg), rdN T R rfl ⟨_, _, rfl, rfl, ?_⟩⟩
    have e : ((((gs.map V.int).length : Nat) : Int) - (m : Int)) = ((gs.length - m : Nat) : Int) := by
      have := R.okT.2
      rw [List.length_map]
      omega
    rw [← e] at k
    exact k
end
end RS
namespace RS
open PySem L2
section
variable {P : Program} {w : World} {K : PySem.W.Frag} {mg : Str → Option Value} {base : Heap}
def perV (gs : List Int) : Tl → V
  | .rep m => .int (per gs m)
  | _ => .non
def spPer (C : Addr) : Sp := fun vs H Q _ => ∃ (p g t o : Addr) (gs : List Int) (tl : Tl), vs = [.ref p] ∧ RuleAt C H p g t o gs tl ∧ Q (perV gs tl) H
theorem scSelf_per : FnScope ["self"] ["self"] (defScope s_Rule_period) := ⟨rfl, rfl, rfl, by decide +kernel, rfl, by decide +kernel, by decide +kernel⟩
theorem ok_per {f C fR : Addr} {fd fdR : FuncData} (F : Fun K "period" "Rule.period" s_Rule_period f fd) (T : Txt K mg C) (FR : Fun K "first_repeating" "Rule.first_repeating" s_Rule_first_repeating fR fdR) (bR : Binds K fdR ["self"] []) (mR : Meth K C "first_repeating" fR) : FnOk P w K mg base CX0 2 f fd ["self"] (spPer C) := by
  have GR : FnOk P w K mg base CX0 1 fR fdR ["self"] (spFR C) := ok_fr FR T
  refine F.ok scSelf_per (fun vs H Q E h => ?_) (fun cdv A outer s H vs Q E hr h => ?_)
  · obtain ⟨p, g, t, o, gs, tl, rfl, _⟩ := h
    rfl
  · obtain ⟨p, g, t, o, gs, tl, rfl, R, k⟩ := h
    refine ⟨_, (pss_cons (ps_if (pt_cmpR op_ne (pe_ix ix_tup (pe_fld (pv 0) rfl) pe_int (fun _ _ => rfl)) pe_str (nomark _)) (pss_one (ps_ret pe_non)) pss_nil) (pss_one (ps_ret (pe_op op_sub (pe_ix ix_list (pe_fld (pv 0) rfl) (pe_un un_neg pe_int) (fun _ _ => rfl)) (pe_ix ix_list (pe_fld (pv 0) rfl) (pe_meth0 (pv 0) T.cl mR GR hr bR .nil pass0) (fun _ _ => rfl)))))), ?_⟩
    refine rdNe T R rfl ?_
    cases tl with
    | fin => exact iteTb (congrArg not wER) k
    | times b => exact iteTb (congrArg not wTR) k
    | rep m =>
      refine iteFb (congrArg not wRR) ?_
      refine rdLastO T R rfl (rdO T R rfl ?_)
      obtain ⟨dx, hob⟩ := R.ob
      refine ⟨_, rfl, p, dx, _, rfl, hob, flds_no _ _ _ (by decide +kernel) (by decide +kernel) (by decide +kernel), p, g, t, o, gs, m, rfl, R, ?_⟩
      exact ⟨o, _, _, _, rfl, rfl, SqL.of R.ho, at_map (offs_get gs (by omega)), _, _, rfl, rfl, k⟩
end
end RS
namespace RS
open PySem L2
section
variable {P : Program} {w : World} {K : PySem.W.Frag} {mg : Str → Option Value} {base : Heap}
theorem end_cmp {p : Prop} [Decidable p] {A B : Prop} (hp : ¬ p) (h : B) : if decide p = true then A else B := iteFb (decide_eq_false hp) h
/-! ### _check_attempt -/
def spCheck (C : Addr) : Sp := fun vs H Q _ => ∃ (p g t o : Addr) (gs : List Int) (tl : Tl) (n : Nat), vs = [.ref p, .int (n : Int)] ∧ RuleAt C H p g t o gs tl ∧ AttOk gs tl n ∧ Q .non H
theorem scCheck : FnScope ["self", "attempt"] ["self", "attempt"] (defScope s_Rule_check_attempt) := ⟨rfl, rfl, rfl, by decide +kernel, rfl, by decide +kernel, by decide +kernel⟩
theorem ok_check {f C fi : Addr} {fd fdi : FuncData} (F : Fun K "_check_attempt" "Rule._check_attempt" s_Rule_check_attempt f fd) (T : Txt K mg C) (FI : Fun K "is_integer" "is_integer" s_is_integer fi fdi) (bI : Binds K fdi ["value"] []) (mI : mg "is_integer" = some (.ref fi)) :
    FnOk P w K mg base CX0 2 f fd ["self", "attempt"] (spCheck C) := by
  have GI : FnOk P w K mg base CX0 1 fi fdi ["value"] spIsInt := ok_isInt FI T
  obtain ⟨t1, m1⟩ := T.mLast
  refine F.ok scCheck (fun vs H Q E h => ?_) (fun cdv A outer s H vs Q E hr h => ?_)
  · obtain ⟨p, g, t, o, gs, tl, n, rfl, _⟩ := h
    rfl
  · obtain ⟨p, g, t, o, gs, tl, n, rfl, R, ok, k⟩ := h
    refine ⟨_, (pss_cons (ps_if (PW.pt (pw_or (pt_not (pt_val (pe_call GI hr rfl mI FI.kp bI .nil pass0 (pa_cons (pv 1) pa_nil)))) (pw_or1 (pt_cmpR op_lt (pv 1) pe_int (nomark _))))) (pss_one ps_never) pss_nil) (pss_cons (ps_if (PW.pt (pw_and (pt_cmpR op_eq (pe_ix ix_tup (pe_fld (pv 0) rfl) pe_int (fun _ _ => rfl)) pe_str (nomark _)) (pw_and1 (pt_cmpR op_ge (pv 1) (pe_callB call_len_seq (by rfl) T.len (by decide +kernel) (pa_cons (pe_fld (pv 0) rfl) pa_nil)) (nomark _))))) (pss_one ps_never) pss_nil) (pss_one (ps_if (PW.pt (pw_and (pt_cmpR op_eq (pe_ix ix_tup (pe_fld (pv 0) rfl) pe_int (fun _ _ => rfl)) pe_str (nomark _)) (pw_and1 (pt_cmpR op_gt (pv 1) (pe_glob (v := .int 1000) rfl m1 ⟨_, rfl⟩) (nomark _))))) (pss_one ps_never) pss_nil)))), ?_⟩
    refine ⟨_, rfl, _, rfl, true, rfl, iteF ⟨_, rfl, _, _, rfl, rfl, _, rfl, iteFb (decide_eq_false (by omega)) ?_⟩⟩
    refine rdIs T R rfl ?_
    cases tl with
    | fin =>
      refine iteTb wEE ?_
      refine ⟨_, rfl, rdO T R rfl ⟨o, _, rfl, .inl (SqL.of R.ho), _, _, rfl, rfl, _, rfl, iteFb (decide_eq_false ?_) ?_⟩⟩
      · rw [List.length_map, offs_len]
        have : n ≤ gs.length := ok
        omega
      · exact rdIs T R rfl (iteFb wET (iteF k))
    | times b =>
      refine iteFb wTE ?_
      refine iteF ?_
      refine rdIs T R rfl (iteTb wTT ⟨_, rfl, _, _, rfl, rfl, _, rfl, iteFb (decide_eq_false ?_) k⟩)
      have : n ≤ 1000 := ok
      omega
    | rep m =>
      refine iteFb wRE ?_
      refine iteF ?_
      exact rdIs T R rfl (iteFb wRT (iteF k))
/-! ### _offset_of -/
def spOff (C : Addr) : Sp := fun vs H Q _ => ∃ (p g t o : Addr) (gs : List Int) (tl : Tl) (n : Nat), vs = [.ref p, .int (n : Int)] ∧ RuleAt C H p g t o gs tl ∧ AttOk gs tl n ∧ ∀ H', Same H H' → Q (.int (off gs tl n)) H'
theorem scOff : FnScope ["self", "attempt", "further", "factor", "periods", "rest"] ["self", "attempt"] (defScope s_Rule_offset_of) := ⟨rfl, rfl, rfl, by decide +kernel, rfl, by decide +kernel, by decide +kernel⟩
theorem ok_off {f C fR fP fW : Addr} {fd fdR fdP fdW : FuncData} (F : Fun K "_offset_of" "Rule._offset_of" s_Rule_offset_of f fd) (T : Txt K mg C) (FR : Fun K "first_repeating" "Rule.first_repeating" s_Rule_first_repeating fR fdR) (bR : Binds K fdR ["self"] []) (mR : Meth K C "first_repeating" fR)
    (FP : Fun K "period" "Rule.period" s_Rule_period fP fdP) (bP : Binds K fdP ["self"] []) (mP : Meth K C "period" fP) (FW : Fun K "_power" "_power" s_power fW fdW) (bW : Binds K fdW ["base", "exponent"] []) (mW : mg "_power" = some (.ref fW)) :
    FnOk P w K mg base CX0 3 f fd ["self", "attempt"] (spOff C) := by
  have GR : FnOk P w K mg base CX0 1 fR fdR ["self"] (spFR C) := ok_fr FR T
  have GP : FnOk P w K mg base CX0 2 fP fdP ["self"] (spPer C) := ok_per FP T FR bR mR
  have GW : FnOk P w K mg base CX0 1 fW fdW ["base", "exponent"] spPower := ok_power FW
  refine F.ok scOff (fun vs H Q E h => ?_) (fun cdv A outer s H vs Q E hr h => ?_)
  · obtain ⟨p, g, t, o, gs, tl, n, rfl, _⟩ := h
    rfl
  · obtain ⟨p, g, t, o, gs, tl, n, rfl, R, ok, k⟩ := h
    have hr1 := hr.mono (show 1 ≤ 2 by decide)
    refine ⟨_, (pss_cons (ps_if (pt_cmpR op_lt (pv 1) (pe_callB call_len_seq (by rfl) T.len (by decide +kernel) (pa_cons (pe_fld (pv 0) rfl) pa_nil)) (nomark _)) (pss_one (ps_ret (pe_ix ix_list (pe_fld (pv 0) rfl) (pv 1) (fun _ _ => rfl)))) pss_nil) (pss_cons (ps_set (i := 2) scOff.nd rfl (Or.inl rfl) (pe_op op_sub (pv 1) (pe_callB call_len_seq (by rfl) T.len (by decide +kernel) (pa_cons (pe_fld (pv 0) rfl) pa_nil)))) (pss_cons (ps_if (pt_cmpR op_eq (pe_ix ix_tup (pe_fld (pv 0) rfl) pe_int (fun _ _ => rfl)) pe_str (nomark _)) (pss_cons (ps_set (i := 3) scOff.nd rfl (Or.inl rfl) (pe_ix ix_tup (pe_fld (pv 0) rfl) pe_int (fun _ _ => rfl))) (pss_one (ps_ret (pe_op op_add (pe_ix ix_list (pe_fld (pv 0) rfl) (pe_un un_neg pe_int) (fun _ _ => rfl)) (pe_op op_fdiv (pe_op op_mul (pe_op op_mul (pe_ix ix_list (pe_fld (pv 0) rfl) (pe_un un_neg pe_int) (fun _ _ => rfl)) (pv 3)) (pe_op op_sub (pe_call GW hr1 rfl mW FW.kp bW .nil pass0 (pa_cons (pv 3) (pa_cons (pv 2) pa_nil))) pe_int)) (pe_op op_sub (pv 3) pe_int)))))) pss_nil) (pss_cons (ps_asg (pe_callB call_divmod (by rfl) T.divmod (by decide +kernel) (pa_cons (pv 2) (pa_cons (pe_ix ix_tup (pe_fld (pv 0) rfl) pe_int (fun _ _ => rfl)) pa_nil))) (pg_tup rfl (pgs_cons (pg_name (i := 4) scOff.nd rfl (Or.inl rfl)) (pgs_cons (pg_name (i := 5) scOff.nd rfl (Or.inl rfl)) pgs_nil)))) (pss_one (ps_ret (pe_op op_add (pe_ix ix_list (pe_fld (pv 0) rfl) (pe_op op_add (pe_meth0 (pv 0) T.cl mR GR hr1 bR .nil pass0) (pv 5)) (fun _ _ => rfl)) (pe_op op_mul (pe_op op_add (pv 4) pe_int) (pe_meth0 (pv 0) T.cl mP GP hr bP .nil pass0))))))))), ?_⟩
    refine ⟨_, rfl, rdO T R rfl ⟨o, _, rfl, .inl (SqL.of R.ho), _, _, rfl, rfl, _, rfl, ?_⟩⟩
    rw [List.length_map, offs_len]
    by_cases hn : n ≤ gs.length
    · refine iteTb (decide_eq_true (by omega)) ?_
      refine rdOx T R rfl ⟨_, rfl, o, _, _, _, rfl, rfl, SqL.of R.ho, at_map (offs_get gs hn), ?_⟩
      have e : off gs tl n = pre gs n := if_pos hn
      rw [← e]
      exact k H (Same.refl H)
    · refine end_cmp (by omega) ?_
      refine ⟨_, rfl, ?_⟩
      refine rdG T R rfl ⟨g, _, rfl, .inl (SqL.of R.hg), _, _, rfl, rfl, ?_⟩
      have ef : ((n : Int) - (((gs.map V.int).length : Nat) : Int)) = ((n - gs.length : Nat) : Int) := by
        rw [List.length_map]
        omega
      show tSeq _ _ _ (List.set _ 2 (some (V.int ((n : Int) - (((gs.map V.int).length : Nat) : Int))))) H
      rw [ef]
      refine rdIs T R rfl ?_
      cases tl with
      | fin => exact absurd ok hn
      | times b =>
        have hl := R.okT.1
        have hb0 := R.okT.2.1
        have hb1 := R.okT.2.2
        have hn1 : n ≤ 1000 := ok
        have hg := gap_bd R.okG (k := gs.length - 1) (by omega)
        have hg : 1 ≤ lastG gs ∧ lastG gs ≤ 1000000000000 := hg
        have hgb1 : lastG gs * b ≤ 1000000000000 * 1000 := Int.mul_le_mul hg.2 hb1 (by omega) (by omega)
        have hgb0 : 0 ≤ lastG gs * b := Int.mul_nonneg (by omega) (by omega)
        refine iteTb wTT ?_
        refine rdB T R rfl ?_
        refine rdLastO T R rfl ?_
        refine rdLast T R rfl hl ⟨_, rfl, _, _, rfl, rfl, .inl ⟨by omega, by omega⟩, ?_⟩
        refine ⟨_, rfl, _, rfl, b, n - gs.length, rfl, by omega, by omega, by omega, _, _, rfl, rfl, _, _, rfl, rfl, .inl ⟨by omega, by omega⟩, ?_⟩
        refine ⟨_, rfl, _, _, rfl, rfl, _, _, rfl, rfl, ⟨by omega, by omega⟩, _, _, rfl, rfl, ?_⟩
        have e : off gs (.times b) n = pre gs gs.length + lastG gs * b * (b ^ (n - gs.length) - 1) / (b - 1) := if_neg hn
        rw [e] at k
        exact k H (Same.refl H)
      | rep m =>
        have hm0 := R.okT.1
        have hm1 := R.okT.2
        have hp := per_bd R.okG hm0 hm1
        refine iteFb wRT ?_
        refine ⟨_, rfl, ?_⟩
        refine rdN T R rfl ⟨_, _, rfl, ⟨by omega, by have := R.okG.1; omega⟩, fun q hq => ?_⟩
        have S : Same H (upd H q (.tup [.int (((n - gs.length : Nat) : Int) / (m : Int)), .int (((n - gs.length : Nat) : Int) % (m : Int))])) := same_new hq
        have R2 := R.mono S
        refine ⟨q, _, rfl, SqT.of upd_same, rfl, _, _, rfl, _, _, rfl, rfl, ?_⟩
        obtain ⟨dx, hob⟩ := R2.ob
        have e1 : (((n - gs.length : Nat) : Int) % (m : Int)) = (((n - gs.length) % m : Nat) : Int) := rfl
        have e2 : (((n - gs.length : Nat) : Int) / (m : Int)) = (((n - gs.length) / m : Nat) : Int) := rfl
        have hr0 : (n - gs.length) % m < m := Nat.mod_lt _ (by omega)
        have nF : (flds g t o).lookup ("first_repeating" : Str) = none := flds_no _ _ _ (by decide +kernel) (by decide +kernel) (by decide +kernel)
        have nP : (flds g t o).lookup ("period" : Str) = none := flds_no _ _ _ (by decide +kernel) (by decide +kernel) (by decide +kernel)
        refine rdOx T R2 rfl ⟨_, rfl, p, dx, _, rfl, hob, nF, p, g, t, o, gs, m, rfl, R2, _, rfl, _, _, rfl, rfl, ?_⟩
        refine ⟨o, _, _, .int (pre gs (gs.length - m + (n - gs.length) % m)), rfl, rfl, SqL.of R2.ho, ?_, ?_⟩
        · rw [e1, ← Int.natCast_add]
          exact at_map (offs_get gs (by omega))
        · refine ⟨_, rfl, _, _, rfl, rfl, _, rfl, p, dx, _, rfl, hob, nP, p, g, t, o, gs, .rep m, rfl, R2, ?_⟩
          refine ⟨_, _, rfl, rfl, .inr ⟨by omega, by omega⟩, _, _, rfl, rfl, ?_⟩
          have e : off gs (.rep m) n = pre gs (gs.length - m + (n - gs.length) % m) + (((n - gs.length) / m : Nat) + 1) * per gs m := if_neg hn
          rw [e] at k
          exact k _ S
/-! ### offset -/
theorem scOffset : FnScope ["self", "attempt"] ["self", "attempt"] (defScope s_Rule_offset) := ⟨rfl, rfl, rfl, by decide +kernel, rfl, by decide +kernel, by decide +kernel⟩
theorem ok_offset {f C fC fO : Addr} {fd fdC fdO : FuncData} (F : Fun K "offset" "Rule.offset" s_Rule_offset f fd) (T : Txt K mg C) (mC : Meth K C "_check_attempt" fC) (bC : Binds K fdC ["self", "attempt"] []) (mO : Meth K C "_offset_of" fO) (bO : Binds K fdO ["self", "attempt"] [])
    (GC : FnOk P w K mg base CX0 2 fC fdC ["self", "attempt"] (spCheck C)) (GO : FnOk P w K mg base CX0 3 fO fdO ["self", "attempt"] (spOff C)) : FnOk P w K mg base CX0 4 f fd ["self", "attempt"] (spOff C) := by
  refine F.ok scOffset (fun vs H Q E h => ?_) (fun cdv A outer s H vs Q E hr h => ?_)
  · obtain ⟨p, g, t, o, gs, tl, n, rfl, _⟩ := h
    rfl
  · obtain ⟨p, g, t, o, gs, tl, n, rfl, R, ok, k⟩ := h
    refine ⟨_, (pss_cons (ps_expr (pe_meth (pv 0) T.cl mC GC (hr.mono (by decide)) bC .nil pass0 (pa_cons (pv 1) pa_nil))) (pss_one (ps_ret (pe_meth (pv 0) T.cl mO GO hr bO .nil pass0 (pa_cons (pv 1) pa_nil))))), ?_⟩
    obtain ⟨dx, hob⟩ := R.ob
    refine ⟨_, rfl, p, dx, _, rfl, hob, flds_no _ _ _ (by decide +kernel) (by decide +kernel) (by decide +kernel), _, rfl, p, g, t, o, gs, tl, n, rfl, R, ok, ?_⟩
    exact ⟨_, rfl, p, dx, _, rfl, hob, flds_no _ _ _ (by decide +kernel) (by decide +kernel) (by decide +kernel), _, rfl, p, g, t, o, gs, tl, n, rfl, R, ok, k⟩
/-! ### gap -/
def spGap (C : Addr) : Sp := fun vs H Q _ => ∃ (p g t o : Addr) (gs : List Int) (tl : Tl) (n : Nat), vs = [.ref p, .int (n : Int)] ∧ RuleAt C H p g t o gs tl ∧ AttOk gs tl n ∧ (tl = .fin → n < gs.length) ∧ Q (.int (gapf gs tl n)) H
theorem scGap : FnScope ["self", "attempt", "further"] ["self", "attempt"] (defScope s_Rule_gap) := ⟨rfl, rfl, rfl, by decide +kernel, rfl, by decide +kernel, by decide +kernel⟩
theorem ok_gap {f C fC fA fR fW : Addr} {fd fdC fdA fdR fdW : FuncData} (F : Fun K "gap" "Rule.gap" s_Rule_gap f fd) (T : Txt K mg C) (mC : Meth K C "_check_attempt" fC) (bC : Binds K fdC ["self", "attempt"] [])
    (GC : FnOk P w K mg base CX0 2 fC fdC ["self", "attempt"] (spCheck C)) (FA : Fun K "attempts" "Rule.attempts" s_Rule_attempts fA fdA) (bA : Binds K fdA ["self"] []) (mA : Meth K C "attempts" fA)
    (FR : Fun K "first_repeating" "Rule.first_repeating" s_Rule_first_repeating fR fdR) (bR : Binds K fdR ["self"] []) (mR : Meth K C "first_repeating" fR)
    (FW : Fun K "_power" "_power" s_power fW fdW) (bW : Binds K fdW ["base", "exponent"] []) (mW : mg "_power" = some (.ref fW)) : FnOk P w K mg base CX0 3 f fd ["self", "attempt"] (spGap C) := by
  have GA : FnOk P w K mg base CX0 1 fA fdA ["self"] (spAtt C) := ok_attempts FA T
  have GR : FnOk P w K mg base CX0 1 fR fdR ["self"] (spFR C) := ok_fr FR T
  have GW : FnOk P w K mg base CX0 1 fW fdW ["base", "exponent"] spPower := ok_power FW
  refine F.ok scGap (fun vs H Q E h => ?_) (fun cdv A outer s H vs Q E hr h => ?_)
  · obtain ⟨p, g, t, o, gs, tl, n, rfl, _⟩ := h
    rfl
  · obtain ⟨p, g, t, o, gs, tl, n, rfl, R, ok, okf, k⟩ := h
    have hr1 := hr.mono (show 1 ≤ 2 by decide)
    refine ⟨_, (pss_cons (ps_expr (pe_meth (pv 0) T.cl mC GC hr bC .nil pass0 (pa_cons (pv 1) pa_nil))) (pss_cons (ps_if (pt_cmpR op_eq (pe_op op_add (pv 1) pe_int) (pe_meth0 (pv 0) T.cl mA GA hr1 bA .nil pass0) (nomark _)) (pss_one ps_never) pss_nil) (pss_cons (ps_if (pt_cmpR op_lt (pv 1) (pe_callB call_len_seq (by rfl) T.len (by decide +kernel) (pa_cons (pe_fld (pv 0) rfl) pa_nil)) (nomark _)) (pss_one (ps_ret (pe_ix ix_list (pe_fld (pv 0) rfl) (pv 1) (fun _ _ => rfl)))) pss_nil) (pss_cons (ps_set (i := 2) scGap.nd rfl (Or.inl rfl) (pe_op op_sub (pv 1) (pe_callB call_len_seq (by rfl) T.len (by decide +kernel) (pa_cons (pe_fld (pv 0) rfl) pa_nil)))) (pss_cons (ps_if (pt_cmpR op_eq (pe_ix ix_tup (pe_fld (pv 0) rfl) pe_int (fun _ _ => rfl)) pe_str (nomark _)) (pss_one (ps_ret (pe_op op_mul (pe_ix ix_list (pe_fld (pv 0) rfl) (pe_un un_neg pe_int) (fun _ _ => rfl)) (pe_call GW hr1 rfl mW FW.kp bW .nil pass0 (pa_cons (pe_ix ix_tup (pe_fld (pv 0) rfl) pe_int (fun _ _ => rfl)) (pa_cons (pe_op op_add (pv 2) pe_int) pa_nil)))))) pss_nil) (pss_one (ps_ret (pe_ix ix_list (pe_fld (pv 0) rfl) (pe_op op_add (pe_meth0 (pv 0) T.cl mR GR hr1 bR .nil pass0) (pe_op op_mod (pv 2) (pe_ix ix_tup (pe_fld (pv 0) rfl) pe_int (fun _ _ => rfl)))) (fun _ _ => rfl))))))))), ?_⟩
    obtain ⟨dx, hob⟩ := R.ob
    have nF : (flds g t o).lookup ("first_repeating" : Str) = none := flds_no _ _ _ (by decide +kernel) (by decide +kernel) (by decide +kernel)
    have nA : (flds g t o).lookup ("attempts" : Str) = none := flds_no _ _ _ (by decide +kernel) (by decide +kernel) (by decide +kernel)
    refine ⟨_, rfl, p, dx, _, rfl, hob, flds_no _ _ _ (by decide +kernel) (by decide +kernel) (by decide +kernel), _, rfl, p, g, t, o, gs, tl, n, rfl, R, ok, ?_⟩
    refine ⟨_, rfl, _, _, rfl, rfl, _, rfl, p, dx, _, rfl, hob, nA, p, g, t, o, gs, tl, rfl, R, ?_⟩
    have hsc : scal (V.int ((n : Int) + 1)) (attV gs tl) = true := by cases tl <;> rfl
    have hne : decide (V.int ((n : Int) + 1) = attV gs tl) = false := by
      cases tl with
      | fin =>
        have := okf rfl
        refine decide_eq_false fun e => ?_
        have := V.int.inj e
        omega
      | times b => exact decide_eq_false fun e => by cases e
      | rep m => exact decide_eq_false fun e => by cases e
    refine ⟨hsc, _, rfl, iteFb hne ?_⟩
    refine ⟨_, rfl, rdG T R rfl ⟨g, _, rfl, .inl (SqL.of R.hg), _, _, rfl, rfl, _, rfl, ?_⟩⟩
    rw [List.length_map]
    by_cases hn : n < gs.length
    · refine iteTb (decide_eq_true (by omega)) ?_
      refine rdGx T R rfl ⟨_, rfl, g, _, _, _, rfl, rfl, SqL.of R.hg, at_map (getD_get hn), ?_⟩
      have e : gapf gs tl n = gs.getD n 0 := if_pos hn
      rw [← e]
      exact k
    · refine end_cmp (by omega) ?_
      refine ⟨_, rfl, ?_⟩
      refine rdG T R rfl ⟨g, _, rfl, .inl (SqL.of R.hg), _, _, rfl, rfl, ?_⟩
      have ef : ((n : Int) - (((gs.map V.int).length : Nat) : Int)) = ((n - gs.length : Nat) : Int) := by
        rw [List.length_map]
        omega
      show tSeq _ _ _ (List.set _ 2 (some (V.int ((n : Int) - (((gs.map V.int).length : Nat) : Int))))) H
      rw [ef]
      refine rdIs T R rfl ?_
      cases tl with
      | fin => exact absurd (okf rfl) hn
      | times b =>
        have hl := R.okT.1
        have hb0 := R.okT.2.1
        have hb1 := R.okT.2.2
        have hn1 : n ≤ 1000 := ok
        have hg := gap_bd R.okG (k := gs.length - 1) (by omega)
        have hg : 1 ≤ lastG gs ∧ lastG gs ≤ 1000000000000 := hg
        refine iteTb wTT ?_
        refine rdLast T R rfl hl ?_
        refine rdB T R rfl ⟨_, rfl, _, _, rfl, rfl, b, n - gs.length + 1, ?_, by omega, by omega, by omega, _, _, rfl, rfl, .inl ⟨by omega, by omega⟩, ?_⟩
        · rfl
        · have e : gapf gs (.times b) n = lastG gs * b ^ (n - gs.length + 1) := if_neg hn
          rw [e] at k
          exact k
      | rep m =>
        have hm0 := R.okT.1
        have hm1 := R.okT.2
        have hr0 : (n - gs.length) % m < m := Nat.mod_lt _ (by omega)
        refine iteFb wRT ?_
        refine rdGx T R rfl ⟨_, rfl, p, dx, _, rfl, hob, nF, p, g, t, o, gs, m, rfl, R, _, rfl, ?_⟩
        refine rdN T R rfl ⟨_, _, rfl, rfl, by omega, _, _, rfl, rfl, ?_⟩
        refine ⟨g, _, _, .int (gs.getD (gs.length - m + (n - gs.length) % m) 0), rfl, rfl, SqL.of R.hg, ?_, ?_⟩
        · rw [← Int.natCast_emod, ← Int.natCast_add]
          exact at_map (getD_get (by omega))
        · have e : gapf gs (.rep m) n = gs.getD (gs.length - m + (n - gs.length) % m) 0 := if_neg hn
          rw [e] at k
          exact k
end
end RS
namespace RS
open PySem L2
/-! ### the law's own source of numbers -/
/-- all but what stands at a is as it was -/
def Kx (a : Addr) (H H' : Hp) : Prop := ∀ c u, c ≠ a → H c = some u → H' c = some u
theorem Kx.refl (a : Addr) (H : Hp) : Kx a H H := fun _ _ _ h => h
theorem Kx.trans {a : Addr} {H H1 H2 : Hp} (x : Kx a H H1) (y : Kx a H1 H2) : Kx a H H2 := fun c u n h => y c u n (x c u n h)
theorem Kx.of {a : Addr} {H H' : Hp} (x : Same H H') : Kx a H H' := fun c u _ h => x c u h
theorem Kx.upd {a : Addr} {H : Hp} {o : HO} : Kx a H (upd H a o) := fun c u n h => by
  rw [upd_ne n]
  exact h
theorem Kx.free {a : Addr} {H H' : Hp} (x : Kx a H H') {p : Addr} (n : p ≠ a) (h : H' p = none) : H p = none := by
  cases q : H p with
  | none => rfl
  | some o =>
    rw [x p o n q] at h
    cases h
structure Src (H : Hp) (a : Addr) (b : Nat) : Prop where
  ex : ∃ s0 s1 s2 : Int, H a = some (.lst [.int s0, .int s1, .int s2]) ∧ 0 ≤ s0 ∧ 0 ≤ s2 ∧ s2 ≤ b
theorem Src.mono {H H' : Hp} {a : Addr} {b : Nat} (h : Src H a b) (e : Same H H') : Src H' a b := by
  obtain ⟨s0, s1, s2, h1, h2⟩ := h.ex
  exact ⟨s0, s1, s2, e _ _ h1, h2⟩
theorem Src.le {H : Hp} {a : Addr} {b c : Nat} (h : Src H a b) (e : b ≤ c) : Src H a c := by
  obtain ⟨s0, s1, s2, h1, h2, h3, h4⟩ := h.ex
  exact ⟨s0, s1, s2, h1, h2, h3, by omega⟩
theorem Src.new {H : Hp} {a : Addr} {b : Nat} (h : Src H a b) {p : Addr} (hp : H p = none) : a ≠ p := by
  obtain ⟨s0, s1, s2, h1, _⟩ := h.ex
  exact ne_of_none h1 hp
theorem Src.upd {H : Hp} {a : Addr} {b : Nat} (h : Src H a b) {p : Addr} {o : HO} (n : a ≠ p) : Src (upd H p o) a b := by
  obtain ⟨s0, s1, s2, h1, h2⟩ := h.ex
  exact ⟨s0, s1, s2, by rw [upd_ne n]; exact h1, h2⟩
section
variable {P : Program} {w : World} {K : PySem.W.Frag} {mg : Str → Option Value} {base : Heap}
/-! ### the law's own source of numbers -/
def spWell : Sp := fun vs H Q _ => ∃ c : Int, vs = [.int c] ∧ ∀ a H', H a = none → Same H H' → Src H' a 0 → Q (.ref a) H'
theorem scWell : FnScope ["_law_cell"] ["_law_cell"] (defScope s_law_well) := ⟨rfl, rfl, rfl, by decide +kernel, rfl, by decide +kernel, by decide +kernel⟩
theorem ok_well {f C : Addr} {fd : FuncData} (F : Fun K "_law_well" "_law_well" s_law_well f fd) (T : Txt K mg C) : FnOk P w K mg base CX0 1 f fd ["_law_cell"] spWell := by
  refine F.ok scWell (fun vs H Q E h => ?_) (fun cdv A outer s H vs Q E hr h => ?_)
  · obtain ⟨c, rfl, _⟩ := h
    rfl
  · obtain ⟨c, rfl, k⟩ := h
    refine ⟨_, (pss_one (ps_ret (pe_lst (pa_cons (pe_op op_mul (pv 0) (pe_callTy call_int1 (by rfl) T.int (by decide +kernel) (pa_cons (pe_cmpR op_ge (pv 0) (pe_op op_pow pe_int pe_int) (nomark _)) pa_nil))) (pa_cons (pv 0) (pa_cons pe_int pa_nil)))))), ?_⟩
    refine ⟨_, rfl, _, rfl, _, _, rfl, rfl, ⟨by decide, by decide, by decide⟩, _, _, rfl, rfl, .inr ⟨_, rfl, ?_⟩⟩
    refine ⟨_, _, rfl, rfl, .inr ?_, _, rfl, (by show 3 ≤ sizeLine; decide), fun a ha => ?_⟩
    · by_cases hc : (10 : Int) ^ (18 : Int).toNat ≤ c
      · rw [decide_eq_true hc]; decide
      · rw [decide_eq_false hc]; decide
    · refine k a _ ha (same_new ha) ⟨_, _, _, upd_same, ?_, by decide, by decide⟩
      by_cases hc : (10 : Int) ^ (18 : Int).toNat ≤ c
      · have e : (10 : Int) ^ (18 : Int).toNat = 1000000000000000000 := by decide
        rw [decide_eq_true hc]
        show 0 ≤ c * 1
        omega
      · rw [decide_eq_false hc]
        show 0 ≤ c * 0
        omega
def spMixed : Sp := fun vs H Q _ => ∃ (c k : Int), vs = [.int c, .int k] ∧ 0 ≤ k ∧ k ≤ 1000000 ∧ ∀ r, 0 ≤ r → Q (.int r) H
theorem scMixed : FnScope ["_law_cell", "_law_k", "_law_number"] ["_law_cell", "_law_k"] (defScope s_law_mixed) := ⟨rfl, rfl, rfl, by decide +kernel, rfl, by decide +kernel, by decide +kernel⟩
theorem ok_mixed {f C : Addr} {fd : FuncData} (F : Fun K "_law_mixed" "_law_mixed" s_law_mixed f fd) (T : Txt K mg C) : FnOk P w K mg base CX0 1 f fd ["_law_cell", "_law_k"] spMixed := by
  refine F.ok scMixed (fun vs H Q E h => ?_) (fun cdv A outer s H vs Q E hr h => ?_)
  · obtain ⟨c, k, rfl, _⟩ := h
    rfl
  · obtain ⟨c, k, rfl, k0, k1, q⟩ := h
    refine ⟨_, (pss_cons (ps_set (i := 2) scMixed.nd rfl (Or.inl rfl) (pe_op op_mod (pe_callTy call_int1 (by rfl) T.int (by decide +kernel) (pa_cons (pe_op op_pow (pe_op op_add (pe_op op_add (pe_op op_mod (pe_callTy call_int1 (by rfl) T.int (by decide +kernel) (pa_cons (pv 0) pa_nil)) pe_int) (pe_op op_mul pe_int (pv 1))) pe_int) pe_int) pa_nil)) pe_int)) (pss_cons (ps_set (i := 2) scMixed.nd rfl (Or.inl rfl) (pe_op op_mod (pe_callTy call_int1 (by rfl) T.int (by decide +kernel) (pa_cons (pe_op op_add (pv 2) (pe_op op_mul (pe_op op_mod (pe_callTy call_int1 (by rfl) T.int (by decide +kernel) (pa_cons (pe_op op_fdivW (pv 0) pe_int) pa_nil)) pe_int) (pe_op op_add (pv 1) pe_int))) pa_nil)) pe_int)) (pss_cons (ps_set (i := 2) scMixed.nd rfl (Or.inl rfl) (pe_op op_mod (pe_callTy call_int1 (by rfl) T.int (by decide +kernel) (pa_cons (pe_op op_mul (pv 2) (pe_op op_add (pe_op op_add (pe_op op_fdiv (pv 2) pe_int) pe_int) (pv 1))) pa_nil)) pe_int)) (pss_one (ps_ret (pe_op op_mod (pe_callTy call_int1 (by rfl) T.int (by decide +kernel) (pa_cons (pe_op op_mul (pv 2) (pe_op op_add (pe_op op_fdiv (pv 2) pe_int) pe_int)) pa_nil)) pe_int)))))), ?_⟩
    have m1 := Int.emod_nonneg c (show (2147483629 : Int) ≠ 0 by decide)
    have m2 := Int.emod_lt_of_pos c (show (0 : Int) < 2147483629 by decide)
    refine ⟨_, rfl, .inl ⟨_, rfl, _, _, rfl, rfl, (by show (0 : Int) < 2147483629; decide), _, rfl, _, _, rfl, rfl, .inl ⟨by decide, by decide⟩, _, _, rfl, rfl, _, _, rfl, rfl, _, _, rfl, rfl, ⟨by decide, by decide, by omega⟩, .inl ⟨_, rfl, _, _, rfl, rfl, (by show (0 : Int) < 2147483647; decide), ?_⟩⟩⟩
    generalize hn1 : (c % 2147483629 + 30011 * k + 7) ^ (3 : Int).toNat % 2147483647 = n1
    have a1 : 0 ≤ n1 := by rw [← hn1]; exact Int.emod_nonneg _ (by decide)
    have a2 : n1 < 2147483647 := by rw [← hn1]; exact Int.emod_lt_of_pos _ (by decide)
    refine ⟨_, rfl, _, rfl, _, _, rfl, rfl, wide_div (by decide) (b := 32) (by decide) (by decide) (by decide), .inl ⟨_, rfl, _, _, rfl, rfl, (by show (0 : Int) < 65537; decide), ?_⟩⟩
    generalize hx : c / 2147483629 % 65537 = x
    have x0 : 0 ≤ x := by rw [← hx]; exact Int.emod_nonneg _ (by decide)
    have x1 : x < 65537 := by rw [← hx]; exact Int.emod_lt_of_pos _ (by decide)
    refine ⟨_, rfl, _, _, rfl, rfl, _, _, rfl, rfl, .inl ⟨by omega, by omega⟩, _, _, rfl, rfl, .inl ⟨_, rfl, _, _, rfl, rfl, (by show (0 : Int) < 2147483587; decide), ?_⟩⟩
    generalize hn2 : (n1 + x * (k + 5)) % 2147483587 = n2
    have b1 : 0 ≤ n2 := by rw [← hn2]; exact Int.emod_nonneg _ (by decide)
    have b2 : n2 < 2147483587 := by rw [← hn2]; exact Int.emod_lt_of_pos _ (by decide)
    refine ⟨_, rfl, _, rfl, _, _, rfl, rfl, ⟨by decide, by decide⟩, _, _, rfl, rfl, _, rfl, _, _, rfl, rfl, _, _, rfl, rfl, .inl ⟨by omega, by omega⟩, .inl ⟨_, rfl, _, _, rfl, rfl, (by show (0 : Int) < 2147483563; decide), ?_⟩⟩
    generalize hn3 : n2 * (n2 / 1009 + 69621 + k) % 2147483563 = n3
    have c1 : 0 ≤ n3 := by rw [← hn3]; exact Int.emod_nonneg _ (by decide)
    have c2 : n3 < 2147483563 := by rw [← hn3]; exact Int.emod_lt_of_pos _ (by decide)
    refine ⟨_, rfl, _, rfl, _, _, rfl, rfl, ⟨by decide, by decide⟩, _, _, rfl, rfl, _, _, rfl, rfl, .inl ⟨by omega, by omega⟩, .inl ⟨_, rfl, _, _, rfl, rfl, (by show (0 : Int) < 2147483399; decide), ?_⟩⟩
    exact q _ (Int.emod_nonneg _ (by decide))
def spNext : Sp := fun vs H Q _ => ∃ (a : Addr) (m : Int) (b : Nat), vs = [.ref a, .int m] ∧ Src H a b ∧ b ≤ 100000 ∧ 1 ≤ m ∧ m < 2 ^ 200 ∧ ∀ r H', 0 ≤ r → r < m → Kx a H H' → Src H' a (b + 1) → Q (.int r) H'
theorem scNext : FnScope ["_law_well_here", "_law_many", "_law_found"] ["_law_well_here", "_law_many"] (defScope s_law_draw) := ⟨rfl, rfl, rfl, by decide +kernel, rfl, by decide +kernel, by decide +kernel⟩
theorem ok_next {f C fM : Addr} {fd fdM : FuncData} (F : Fun K "_law_draw" "_law_draw" s_law_draw f fd) (T : Txt K mg C)
    (GM : FnOk P w K mg base CX0 1 fM fdM ["_law_cell", "_law_k"] spMixed) (bM : Binds K fdM ["_law_cell", "_law_k"] []) (mM : mg "_law_mixed" = some (.ref fM)) (kM : PySem.W.keepIn K (.ref fM) = true) : FnOk P w K mg base CX0 2 f fd ["_law_well_here", "_law_many"] spNext := by
  refine F.ok scNext (fun vs H Q E h => ?_) (fun cdv A outer s H vs Q E hr h => ?_)
  · obtain ⟨a, m, b, rfl, _⟩ := h
    rfl
  · obtain ⟨a, m, b, rfl, S, hb, hm1, hm2, k⟩ := h
    obtain ⟨s0, s1, s2, ha, h0, h2, h2'⟩ := S.ex
    refine ⟨_, (pss_cons (ps_if (pt_cmpR op_gt (pe_ix ix_list (pv 0) pe_int (fun _ _ => rfl)) pe_int (nomark _)) (pss_cons (ps_set (i := 2) scNext.nd rfl (Or.inl rfl) (pe_op op_mod (pe_callTy call_int1 (by rfl) T.int (by decide +kernel) (pa_cons (pe_ix ix_list (pv 0) pe_int (fun _ _ => rfl)) pa_nil)) (pv 1))) (pss_cons (ps_asg (pe_op op_fdivW (pe_ix ix_list (pv 0) pe_int (fun _ _ => rfl)) (pv 1)) (pg_sub (pv 0) pe_int set_list)) (pss_one (ps_ret (pv 2))))) pss_nil) (pss_cons (ps_asg (pe_op op_add (pe_ix ix_list (pv 0) pe_int (fun _ _ => rfl)) pe_int) (pg_sub (pv 0) pe_int set_list)) (pss_one (ps_ret (pe_op op_mod (pe_callTy call_int1 (by rfl) T.int (by decide +kernel) (pa_cons (pe_call GM hr rfl mM kM bM .nil pass0 (pa_cons (pe_ix ix_list (pv 0) pe_int (fun _ _ => rfl)) (pa_cons (pe_ix ix_list (pv 0) pe_int (fun _ _ => rfl)) pa_nil))) pa_nil)) (pv 1)))))), ?_⟩
    refine ⟨_, rfl, a, _, _, _, rfl, rfl, SqL.of ha, atI_nat (j := 0) rfl, _, _, rfl, rfl, _, rfl, ?_⟩
    by_cases hz : 0 < s0
    · refine iteTb (decide_eq_true hz) ?_
      refine ⟨_, rfl, a, _, _, _, rfl, rfl, SqL.of ha, atI_nat (j := 0) rfl, .inl ⟨_, rfl, _, rfl, _, _, rfl, rfl, by omega, ?_⟩⟩
      refine ⟨_, rfl, a, _, _, _, rfl, rfl, SqL.of ha, atI_nat (j := 0) rfl, _, rfl, _, _, rfl, rfl, wide_div (by omega) (b := 200) (by omega) (by decide) (by decide), _, rfl, a, _, _, 0, rfl, rfl, ha, rfl, ?_⟩
      refine ⟨_, rfl, k _ _ (Int.emod_nonneg _ (by omega)) (Int.emod_lt_of_pos _ (by omega)) Kx.upd ⟨s0 / m, s1, s2, upd_same, Int.ediv_nonneg h0 (by omega), h2, by omega⟩⟩
    · refine iteFb (decide_eq_false hz) ?_
      refine ⟨_, rfl, a, _, _, _, rfl, rfl, SqL.of ha, atI_nat (j := 2) rfl, _, _, rfl, rfl, _, rfl, a, _, _, 2, rfl, rfl, ha, rfl, ?_⟩
      have hal := upd_same (H := H) (a := a) (o := .lst [V.int s0, .int s1, .int (s2 + 1)])
      refine ⟨_, rfl, a, _, _, _, rfl, rfl, SqL.of hal, atI_nat (j := 1) rfl, _, rfl, a, _, _, _, rfl, rfl, SqL.of hal, atI_nat (j := 2) rfl, s1, s2 + 1, rfl, by omega, by omega, fun r r0 => .inl ⟨_, rfl, _, rfl, _, _, rfl, rfl, by omega, ?_⟩⟩
      exact k _ _ (Int.emod_nonneg _ (by omega)) (Int.emod_lt_of_pos _ (by omega)) Kx.upd ⟨s0, s1, s2 + 1, hal, h0, by omega, by omega⟩
def spOne : Sp := fun vs H Q _ => ∃ (a q : Addr) (xs : List V) (b : Nat), vs = [.ref a, .ref q] ∧ Src H a b ∧ b ≤ 100000 ∧ q ≠ a ∧ H q = some (.lst xs) ∧ 0 < xs.length ∧ xs.length < 1000 ∧ ∀ x H', x ∈ xs → Kx a H H' → Src H' a (b + 1) → Q x H'
theorem scOne : FnScope ["_law_well_here", "_law_some"] ["_law_well_here", "_law_some"] (defScope s_law_one) := ⟨rfl, rfl, rfl, by decide +kernel, rfl, by decide +kernel, by decide +kernel⟩
theorem ok_one {f C fN : Addr} {fd fdN : FuncData} (F : Fun K "_law_one" "_law_one" s_law_one f fd) (T : Txt K mg C) (GN : FnOk P w K mg base CX0 2 fN fdN ["_law_well_here", "_law_many"] spNext) (bN : Binds K fdN ["_law_well_here", "_law_many"] []) (mN : mg "_law_draw" = some (.ref fN)) (kN : PySem.W.keepIn K (.ref fN) = true) :
    FnOk P w K mg base CX0 3 f fd ["_law_well_here", "_law_some"] spOne := by
  refine F.ok scOne (fun vs H Q E h => ?_) (fun cdv A outer s H vs Q E hr h => ?_)
  · obtain ⟨a, q, xs, b, rfl, _⟩ := h
    rfl
  · obtain ⟨a, q, xs, b, rfl, S, hb, hne, hq, hx0, hx1, k⟩ := h
    refine ⟨_, (pss_one (ps_ret (pe_ix ix_list (pv 1) (pe_call GN hr rfl mN kN bN .nil pass0 (pa_cons (pv 0) (pa_cons (pe_callB call_len_seq (by rfl) T.len (by decide +kernel) (pa_cons (pv 1) pa_nil)) pa_nil))) (fun _ _ => rfl)))), ?_⟩
    refine ⟨_, rfl, _, rfl, _, rfl, q, _, rfl, .inl (SqL.of hq), a, (xs.length : Int), b, rfl, S, hb, by omega, by omega, fun r H' r0 r1 kx S' => ?_⟩
    obtain ⟨j, rfl⟩ : ∃ j : Nat, r = (j : Int) := ⟨r.toNat, by omega⟩
    have hj : j < xs.length := by omega
    exact ⟨q, _, _, _, rfl, rfl, SqL.of (kx _ _ hne hq), atI_nat (List.getElem?_eq_getElem hj), k _ _ (List.getElem_mem hj) kx S'⟩
end
end RS
namespace RS
open PySem L2
/-! ### what the law draws: a rule, windows, parts of a scene -/
def Small (gs : List Int) : Prop := gs.length ≤ 5 ∧ ∀ g ∈ gs, 1 ≤ g ∧ g ≤ 6
theorem Small.ok {gs : List Int} (h : Small gs) : GapsOk gs := ⟨by have := h.1; omega, fun g hg => by have := h.2 g hg; omega⟩
/-- tuples of two ints, none of them at a -/
inductive Tups (a : Addr) (H : Hp) : List V → List (Int × Int) → Prop
  | nil : Tups a H [] []
  | cons {r : Addr} {vs : List V} {f e : Int} {ws : List (Int × Int)} : r ≠ a → H r = some (.tup [.int f, .int e]) → Tups a H vs ws → Tups a H (.ref r :: vs) ((f, e) :: ws)
theorem Tups.kx {a : Addr} {H H' : Hp} (k : Kx a H H') : ∀ {vs : List V} {ws : List (Int × Int)}, Tups a H vs ws → Tups a H' vs ws
  | _, _, .nil => .nil
  | _, _, .cons n e r => .cons n (k _ _ n e) (r.kx k)
theorem Tups.len {a : Addr} {H : Hp} : ∀ {vs : List V} {ws : List (Int × Int)}, Tups a H vs ws → vs.length = ws.length
  | _, _, .nil => rfl
  | _, _, .cons _ _ r => by rw [List.length_cons, List.length_cons, r.len]
theorem Tups.snoc {a : Addr} {H : Hp} {r : Addr} {f e : Int} (n : r ≠ a) (h : H r = some (.tup [.int f, .int e])) : ∀ {vs : List V} {ws : List (Int × Int)}, Tups a H vs ws → Tups a H (vs ++ [.ref r]) (ws ++ [(f, e)])
  | _, _, .nil => .cons n h .nil
  | _, _, .cons n' e' t => .cons n' e' (t.snoc n h)
theorem Tups.imp {a : Addr} {H H' : Hp} (k : ∀ (b : Addr) (f e : Int), H b = some (.tup [.int f, .int e]) → H' b = some (.tup [.int f, .int e])) : ∀ {vs : List V} {ws : List (Int × Int)}, Tups a H vs ws → Tups a H' vs ws
  | _, _, .nil => .nil
  | _, _, .cons n e t => .cons n (k _ _ _ e) (t.imp k)
theorem Tups.off {a : Addr} {H : Hp} {l : Addr} {xs : List V} {o : HO} (hl : H l = some (.lst xs)) : ∀ {vs : List V} {ws : List (Int × Int)}, Tups a H vs ws → Tups a (upd H l o) vs ws
  | _, _, .nil => .nil
  | _, _, .cons n e t => .cons n (by rw [upd_ne (ne_of e hl (by intro z; cases z))]; exact e) (t.off hl)
theorem Tups.at {a : Addr} {H : Hp} : ∀ {vs : List V} {ws : List (Int × Int)}, Tups a H vs ws → ∀ {i : Nat} {x : V}, vs[i]? = some x → ∃ r f e, x = .ref r ∧ ws[i]? = some (f, e) ∧ r ≠ a ∧ H r = some (.tup [.int f, .int e])
  | _, _, .nil, i, x, hx => by simp at hx
  | _, _, .cons n e t, i, x, hx => by
    cases i with
    | zero => simp at hx; subst hx; exact ⟨_, _, _, rfl, rfl, n, e⟩
    | succ i => simpa using t.at (i := i) (by simpa using hx)
/-- windows, one behind another -/
def WinOk (ws : List (Int × Int)) : Prop := (∀ p ∈ ws, p.1 < p.2) ∧ ∀ (i : Nat) (p q : Int × Int), ws[i]? = some p → ws[i + 1]? = some q → p.2 ≤ q.1
theorem WinOk.nil : WinOk [] := ⟨(fun _ h => nomatch h), fun i p q h _ => by rw [List.getElem?_nil] at h; cases h⟩
theorem WinOk.snoc {ws : List (Int × Int)} {f e : Int} (h : WinOk ws) (hfe : f < e) (hl : ∀ p, ws[ws.length - 1]? = some p → p.2 ≤ f) : WinOk (ws ++ [(f, e)]) := by
  refine ⟨fun p hp => ?_, fun i p q hp hq => ?_⟩
  · rcases List.mem_append.mp hp with hp | hp
    · exact h.1 p hp
    · obtain rfl := List.mem_singleton.mp hp
      exact hfe
  · have hi : i + 1 < (ws ++ [(f, e)]).length := (List.getElem?_eq_some_iff.mp hq).1
    rw [List.length_append] at hi
    have hi : i + 1 < ws.length + 1 := hi
    by_cases hlt : i + 1 < ws.length
    · rw [List.getElem?_append_left (by omega)] at hp
      rw [List.getElem?_append_left hlt] at hq
      exact h.2 i p q hp hq
    · have e1 : i + 1 = ws.length := by omega
      rw [List.getElem?_append_left (by omega)] at hp
      rw [e1, List.getElem?_append_right (Nat.le_refl _), Nat.sub_self] at hq
      have hq : some (f, e) = some q := hq
      obtain rfl := Option.some.inj hq
      exact hl p (by rw [← e1, Nat.add_sub_cancel]; exact hp)
section
variable {P : Program} {w : World} {K : PySem.W.Frag} {mg : Str → Option Value} {base : Heap}
theorem ints_dp {K : PySem.W.Frag} {H : Hp} : ∀ ns : List Int, DpAll K H (ns.map V.int) (ns.map PyData.int)
  | [] => .nil
  | n :: r => .cons (.int n) (ints_dp r)
theorem list_dp {K : PySem.W.Frag} {H : Hp} {a : Addr} {ns : List Int} (h : SqL K H a (ns.map V.int)) : Dp K H (.ref a) (.list (ns.map PyData.int)) := .lst h (ints_dp ns)
theorem list_eqv (ns ms : List Int) : PyData.eqv (.list (ns.map PyData.int)) (.list (ms.map PyData.int)) = decide (ns = ms) := PySem.W.ked_eqvAll ns ms
def spGps : Sp := fun vs H Q _ => ∃ (a : Addr) (b : Nat), vs = [.ref a] ∧ Src H a b ∧ b ≤ 50000 ∧
  ∀ (u g t : Addr) (gs : List Int) (tl : Tl) (H' : Hp), u ≠ a → g ≠ a → t ≠ a → H' u = some (.tup [.ref g, .ref t]) → H' g = some (.lst (gs.map V.int)) → H' t = some (.tup tl.vs) → Small gs → TlOk gs.length tl → Kx a H H' → Src H' a (b + 20) → Q (.ref u) H'
theorem scGps : FnScope ["_law_well_here", "_law_wide", "_law_steps", "_law_k", "_law_way"] ["_law_well_here"] (defScope s_law_gaps) := ⟨rfl, rfl, rfl, by decide +kernel, rfl, by decide +kernel, by decide +kernel⟩
theorem ok_gps {f C fN fO : Addr} {fd fdN fdO : FuncData} (F : Fun K "_law_gaps" "_law_gaps" s_law_gaps f fd) (T : Txt K mg C)
    (GN : FnOk P w K mg base CX0 2 fN fdN ["_law_well_here", "_law_many"] spNext) (bN : Binds K fdN ["_law_well_here", "_law_many"] []) (mN : mg "_law_draw" = some (.ref fN)) (kN : PySem.W.keepIn K (.ref fN) = true)
    (GO : FnOk P w K mg base CX0 3 fO fdO ["_law_well_here", "_law_some"] spOne) (bO : Binds K fdO ["_law_well_here", "_law_some"] []) (mO : mg "_law_one" = some (.ref fO)) (kO : PySem.W.keepIn K (.ref fO) = true) : FnOk P w K mg base CX0 4 f fd ["_law_well_here"] spGps := by
  refine F.ok scGps (fun vs H Q E h => ?_) (fun cdv A outer s H vs Q E hr h => ?_)
  · obtain ⟨a, b, rfl, _⟩ := h
    rfl
  · obtain ⟨a, b, rfl, S, hb, k⟩ := h
    have hr2 := hr.mono (show 2 ≤ 3 by decide)
    refine ⟨_, (pss_cons (ps_set (i := 1) scGps.nd rfl (Or.inr rfl) (pe_op op_add pe_int (pe_call GN hr2 rfl mN kN bN .nil pass0 (pa_cons (pv 0) (pa_cons pe_int pa_nil))))) (pss_cons (ps_setLc (i := 2) (own := [("_law_k", 3)]) (g := gName 3) (tt := tYes) (by rfl) scGps.nd rfl rfl (sw_true rfl rfl rfl (by decide +kernel)) (pi_range1 rfl T.range (pa_cons (pe_call GN hr2 rfl mN kN bN .nil pass0 (pa_cons (pv 0) (pa_cons pe_int pa_nil))) pa_nil)) (blkOk_by (own := [("_law_k", 3)]) (N := ["_law_well_here", "_law_wide", "_law_steps", "_law_k", "_law_way"]) (sc := defScope s_law_gaps) (by decide +kernel))
        (fun _ _ _ _ _ => (pg_name (i := 3) scGps.nd rfl (Or.inl rfl))) (fun _ _ _ _ _ => pts_nil) (fun _ _ _ _ _ => (pe_op op_add pe_int (pe_call GN hr2 rfl mN kN bN .nil pass0 (pa_cons (pv 0) (pa_cons (pv 1) pa_nil)))))) (pss_cons (ps_set (i := 4) scGps.nd rfl (Or.inl rfl) (pe_call GN hr2 rfl mN kN bN .nil pass0 (pa_cons (pv 0) (pa_cons pe_int pa_nil)))) (pss_cons (ps_if (PW.pt (pw_or (pt_cmpR (op_eqD hr.units) (pv 2) (pe_lst pa_nil) (nomark _)) (pw_or1 (pt_cmpR op_eq (pv 4) pe_int (nomark _))))) (pss_one (ps_ret (pe_tup (pa_cons (pv 2) (pa_cons (pe_tup (pa_cons pe_str pa_nil)) pa_nil))))) pss_nil) (pss_cons (ps_if (pt_cmpR op_eq (pv 4) pe_int (nomark _)) (pss_one (ps_ret (pe_tup (pa_cons (pv 2) (pa_cons (pe_tup (pa_cons pe_str (pa_cons (pe_call GO hr rfl mO kO bO .nil pass0 (pa_cons (pv 0) (pa_cons (pe_lst (pa_cons pe_int (pa_cons pe_int (pa_cons pe_int (pa_cons (pe_op op_add pe_int (pe_call GN hr2 rfl mN kN bN .nil pass0 (pa_cons (pv 0) (pa_cons pe_int pa_nil)))) pa_nil))))) pa_nil))) pa_nil))) pa_nil))))) pss_nil) (pss_one (ps_ret (pe_tup (pa_cons (pv 2) (pa_cons (pe_tup (pa_cons pe_str (pa_cons (pe_op op_add pe_int (pe_call GN hr2 rfl mN kN bN .nil pass0 (pa_cons (pv 0) (pa_cons (pe_callB call_len_seq (by rfl) T.len (by decide +kernel) (pa_cons (pv 2) pa_nil)) pa_nil)))) pa_nil))) pa_nil)))))))))), ?_⟩
    refine ⟨_, rfl, a, 6, b, rfl, S, by omega, by decide, by decide, fun wd H2 wd0 wd1 kx2 R2 => ⟨_, _, rfl, rfl, ?_⟩⟩
    refine ⟨_, rfl, a, 6, b + 1, rfl, R2, by omega, by decide, by decide, fun cn H4 cn0 cn1 kx4 R4 => ?_⟩
    have kx4 : Kx a H H4 := kx2.trans kx4
    refine ⟨cn, rfl, by omega, by omega, fun D hD => ?_⟩
    have naD : a ≠ D := R4.new hD
    refine lc_range (lo := 0) (n := cn.toNat) (fun i H' => ∃ gs : List Int, gs.length = i ∧ (∀ g ∈ gs, 1 ≤ g ∧ g ≤ 6) ∧ H' D = some (.lst (gs.map V.int)) ∧ Kx a H4 H' ∧ Src H' a (b + 2 + i)) ⟨[], rfl, fun g hg => (nomatch hg), upd_same, Kx.of (same_new hD), R4.mono (same_new hD)⟩ (fun i H' hi p => ?_) (fun H' p => ?_)
    · obtain ⟨gs, hl, hg, hd, kx, R⟩ := p
      refine ⟨rfl, ?_⟩
      refine yes_t (iteT ?_)
      refine ⟨_, rfl, _, rfl, a, 1 + wd, b + 2 + i, rfl, R, by omega, by omega, by omega, fun r H5 r0 r1 kx5 R5 => ⟨_, _, rfl, rfl, gs.map V.int, kx5 D _ naD.symm hd, ?_, gs ++ [1 + r], ?_, ?_, ?_, ?_, R5.upd naD⟩⟩
      · rw [List.length_map]
        exact small1000 (by omega)
      · rw [List.length_append, hl]
        rfl
      · intro g hm
        rcases List.mem_append.mp hm with hm | hm
        · exact hg g hm
        · obtain rfl := List.mem_singleton.mp hm
          omega
      · rw [upd_same, List.map_append]
        rfl
      · intro c u n e
        rw [upd_ne (ne_of_none e hD)]
        exact kx5 c u n (kx c u n e)
    obtain ⟨gs, hl, hg, hd, kx, R⟩ := p
    have kx5 : Kx a H H' := kx4.trans kx
    have okS : Small gs := ⟨by omega, hg⟩
    refine ⟨_, rfl, a, 5, b + 2 + cn.toNat, rfl, R, by omega, by decide, by decide, fun kd H6 kd0 kd1 kx6 R6 => ?_⟩
    have hd6 := kx6 D _ naD.symm hd
    have kx7 : Kx a H H6 := kx5.trans kx6
    refine ⟨_, rfl, (by show 0 ≤ sizeLine; decide), fun e0 he0 => ?_⟩
    have S7 : Same H6 (upd H6 e0 (.lst [])) := same_new he0
    refine ⟨_, _, list_dp (SqL.of (S7 _ _ hd6)), list_dp (ns := []) (SqL.of upd_same), PySem.W.ke_shaped_ints gs, PySem.W.ke_shaped_ints [], _, rfl, ?_⟩
    rw [list_eqv]
    have kx8 : Kx a H (upd H6 e0 (.lst [])) := kx7.trans (Kx.of S7)
    have hd8 := S7 _ _ hd6
    have R8 := R6.mono S7
    generalize hH8 : upd H6 e0 (.lst []) = H8 at hd8 kx8 R8
    have fin : ∀ D' : Ends, D'.rt = Q → tRet (tTup (tCons (tVar 2) (tCons (tTup (tCons (tC (.str "end")) tNil)) tNil))) D' [some (.ref a), some (.int (1 + wd)), some (.ref D), none, some (.int kd)] H8 := by
      intro D' hD'
      refine ⟨_, rfl, (by show 1 ≤ sizeLine; decide), fun t ht => ⟨(by show 2 ≤ sizeLine; decide), fun u hu => ?_⟩⟩
      rw [hD']
      refine k u D t gs .fin _ ((R8.mono (same_new ht)).new hu).symm naD.symm (R8.new ht).symm upd_same ?_ ?_ okS True.intro (kx8.trans (Kx.of ((same_new ht).trans (same_new hu)))) (((R8.mono (same_new ht)).mono (same_new hu)).le (by omega))
      · exact same_new hu _ _ (same_new ht _ _ hd8)
      · exact same_new hu _ _ upd_same
    by_cases hge : gs = []
    · refine iteTb (decide_eq_true hge) ?_
      refine iteT ?_
      exact fin _ rfl
    · refine iteFb (decide_eq_false hge) ?_
      have hlen : 0 < gs.length := List.length_pos_iff.mpr hge
      refine ⟨_, rfl, rfl, _, rfl, ?_⟩
      by_cases hk0 : kd = 0
      · refine iteTb (decide_eq_true (by rw [hk0])) ?_
        exact fin _ rfl
      · refine iteFb (decide_eq_false fun e => hk0 (V.int.inj e)) ?_
        refine ⟨_, rfl, rfl, _, rfl, ?_⟩
        by_cases hk1 : kd = 1
        · refine iteTb (decide_eq_true (by rw [hk1])) ?_
          refine ⟨_, rfl, _, rfl, _, rfl, a, 999, b + 3 + cn.toNat, rfl, R8.le (by omega), by omega, by decide, by decide, fun r9 H9 r90 r91 kx9 R9 => ⟨_, _, rfl, rfl, (by show 4 ≤ sizeLine; decide), fun q hq => ?_⟩⟩
          refine ⟨a, q, _, b + 3 + cn.toNat + 1, rfl, R9.mono (same_new hq), by omega, (R9.new hq).symm, upd_same, by show 0 < 4; decide, by show 4 < 1000; decide, fun x H10 hx kx10 R10 => ?_⟩
          obtain ⟨bb, rfl, bb1, bb2⟩ : ∃ bb : Int, x = .int bb ∧ 2 ≤ bb ∧ bb ≤ 1000 := by
            simp only [List.mem_cons, List.not_mem_nil, or_false] at hx
            rcases hx with rfl | rfl | rfl | rfl <;> exact ⟨_, rfl, by omega, by omega⟩
          have kx10 : Kx a H8 H10 := kx9.trans ((Kx.of (same_new hq)).trans kx10)
          refine ⟨(by show 2 ≤ sizeLine; decide), fun t ht => ⟨(by show 2 ≤ sizeLine; decide), fun u hu => ?_⟩⟩
          refine k u D t gs (.times bb) _ ((R10.mono (same_new ht)).new hu).symm naD.symm (R10.new ht).symm upd_same ?_ ?_ okS ⟨hlen, bb1, bb2⟩ (kx8.trans (kx10.trans (Kx.of ((same_new ht).trans (same_new hu))))) (((R10.mono (same_new ht)).mono (same_new hu)).le (by omega))
          · exact same_new hu _ _ (same_new ht _ _ (kx10 _ _ naD.symm hd8))
          · exact same_new hu _ _ upd_same
        · refine iteFb (decide_eq_false fun e => hk1 (V.int.inj e)) ?_
          refine ⟨_, rfl, _, rfl, _, rfl, D, _, rfl, .inl (SqL.of hd8), a, (gs.length : Int), b + 3 + cn.toNat, ?_, R8.le (by omega), by omega, by omega, by omega, fun r H9 r0 r1 kx9 R9 => ?_⟩
          · rw [List.length_map]
            rfl
          obtain ⟨j, rfl⟩ : ∃ j : Nat, r = (j : Int) := ⟨r.toNat, by omega⟩
          refine ⟨_, _, rfl, rfl, (by show 2 ≤ sizeLine; decide), fun t ht => ⟨(by show 2 ≤ sizeLine; decide), fun u hu => ?_⟩⟩
          refine k u D t gs (.rep (1 + j)) _ ((R9.mono (same_new ht)).new hu).symm naD.symm (R9.new ht).symm upd_same ?_ ?_ okS ⟨by omega, by omega⟩ (kx8.trans (kx9.trans (Kx.of ((same_new ht).trans (same_new hu))))) (((R9.mono (same_new ht)).mono (same_new hu)).le (by omega))
          · exact same_new hu _ _ (same_new ht _ _ (kx9 _ _ naD.symm hd8))
          · exact same_new hu _ _ upd_same
end
end RS
namespace RS
open PySem L2
section
variable {P : Program} {w : World} {K : PySem.W.Frag} {mg : Str → Option Value} {base : Heap}
/-! ### windows -/
def spWin : Sp := fun vs H Q _ => ∃ (a : Addr) (b : Nat), vs = [.ref a] ∧ Src H a b ∧ b ≤ 50000 ∧
  ∀ (l : Addr) (rs : List V) (ws : List (Int × Int)) (H' : Hp), l ≠ a → H' l = some (.lst rs) → Tups a H' rs ws → WinOk ws → ws.length ≤ 3 → (∀ p ∈ ws, -10 ≤ p.1 ∧ p.2 ≤ 100) → Kx a H H' → Src H' a (b + 10) → Q (.ref l) H'
theorem scWin : FnScope ["_law_well_here", "_law_found", "_law_low", "_law_k"] ["_law_well_here"] (defScope s_law_windows) := ⟨rfl, rfl, rfl, by decide +kernel, rfl, by decide +kernel, by decide +kernel⟩
theorem ok_win {f C fN : Addr} {fd fdN : FuncData} (F : Fun K "_law_windows" "_law_windows" s_law_windows f fd) (T : Txt K mg C)
    (GN : FnOk P w K mg base CX0 2 fN fdN ["_law_well_here", "_law_many"] spNext) (bN : Binds K fdN ["_law_well_here", "_law_many"] []) (mN : mg "_law_draw" = some (.ref fN)) (kN : PySem.W.keepIn K (.ref fN) = true) : FnOk P w K mg base CX0 3 f fd ["_law_well_here"] spWin := by
  refine F.ok scWin (fun vs H Q E h => ?_) (fun cdv A outer s H vs Q E hr h => ?_)
  · obtain ⟨a, b, rfl, _⟩ := h
    rfl
  · obtain ⟨a, b, rfl, S, hb, k⟩ := h
    refine ⟨_, (pss_cons (ps_par (i := 1) (j := 2) (by rfl) scWin.nd rfl rfl (by decide) rfl rfl (pa_cons (pe_lst pa_nil) (pa_cons (pe_op op_sub (pe_call GN hr rfl mN kN bN .nil pass0 (pa_cons (pv 0) (pa_cons pe_int pa_nil))) pe_int) pa_nil)) (by rfl)) (pss_cons (ps_for PassesOwn.never rfl (pi_range1 rfl T.range (pa_cons (pe_call GN hr rfl mN kN bN .nil pass0 (pa_cons (pv 0) (pa_cons pe_int pa_nil))) pa_nil)) (pg_name (i := 3) scWin.nd rfl (Or.inl rfl))
        (pss_cons (ps_set (i := 2) scWin.nd rfl (Or.inl rfl) (pe_op op_add (pv 2) (pe_call GN hr rfl mN kN bN .nil pass0 (pa_cons (pv 0) (pa_cons pe_int pa_nil))))) (pss_cons (ps_expr (pe_bm PySem.F.plainAttrs_list PySem.F.slot_list_append PySem.F.type_list_append mt_append (pv 1) (pa_cons (pe_tup (pa_cons (pv 2) (pa_cons (pe_op op_add (pe_op op_add (pv 2) pe_int) (pe_call GN hr rfl mN kN bN .nil pass0 (pa_cons (pv 0) (pa_cons pe_int pa_nil)))) pa_nil))) pa_nil))) (pss_one (ps_set (i := 2) scWin.nd rfl (Or.inl rfl) (pe_ix ix_tup (pe_ix ix_list (pv 1) (pe_un un_neg pe_int) (fun _ _ => rfl)) pe_int (fun _ _ => rfl))))))) (pss_one (ps_ret (pv 1))))), ?_⟩
    refine ⟨(by show 0 ≤ sizeLine; decide), fun L hL => ?_⟩
    have sL := same_new (o := .lst []) hL
    have naL : a ≠ L := S.new hL
    refine ⟨_, rfl, a, 20, b, rfl, S.mono sL, by omega, by decide, by decide, fun r0 H1 r00 r01 kx1 R1 => ⟨_, _, rfl, rfl, _, _, rfl, ?_⟩⟩
    have hL1 := kx1 _ _ naL.symm upd_same
    refine ⟨_, rfl, a, 4, b + 1, rfl, R1, by omega, by decide, by decide, fun n H2 n0 n1 kx2 R2 => ?_⟩
    have kx2' : Kx a H H2 := (Kx.of sL).trans (kx1.trans kx2)
    have hL2 := kx2 _ _ naL.symm hL1
    refine ⟨n, rfl, by omega, by omega, for_range (lo := 0) (n := n.toNat) (fun i σ H' => ∃ (rs : List V) (ws : List (Int × Int)) (lo : Int) (v3 : Option V), σ = [some (.ref a), some (.ref L), some (.int lo), v3] ∧ H' L = some (.lst rs) ∧ Tups a H' rs ws ∧ WinOk ws ∧ ws.length = i ∧ (∀ p ∈ ws, -10 ≤ p.1 ∧ p.2 ≤ 100) ∧ (∀ p, ws[ws.length - 1]? = some p → p.2 ≤ lo) ∧ -10 ≤ lo ∧ lo ≤ 10 + 30 * i ∧ Kx a H H' ∧ Src H' a (b + 2 + 2 * i)) ⟨[], [], r0 - 10, none, rfl, hL2, .nil, WinOk.nil, rfl, (fun _ h => nomatch h), (fun p h => by rw [List.getElem?_nil] at h; cases h), by omega, by omega, kx2', R2.le (by omega)⟩ ?_ ?_⟩
    · rintro i σ H3 hi ⟨rs, ws, lo, v3, rfl, hL3, tp, wo, hl, hb2, hlast, l0, l1, kx, R⟩
      refine ⟨_, rfl, _, rfl, a, 12, b + 2 + 2 * i, rfl, R, by omega, by decide, by decide, fun d H4 d0 d1 kx4 R4 => ⟨_, _, rfl, rfl, ?_⟩⟩
      have hL4 := kx4 _ _ naL.symm hL3
      refine ⟨_, rfl, .inl ⟨rfl, _, SqL.of hL4⟩, _, rfl, _, rfl, _, _, rfl, rfl, _, rfl, a, 9, b + 2 + 2 * i + 1, rfl, R4, by omega, by decide, by decide, fun e H5 e0 e1 kx5 R5 => ⟨_, _, rfl, rfl, (by show 2 ≤ sizeLine; decide), fun r hr5 => ?_⟩⟩
      have hL5 := kx5 _ _ naL.symm hL4
      have nra : r ≠ a := (R5.new hr5).symm
      have nLr : L ≠ r := ne_of_none hL5 hr5
      have sr := same_new (o := .tup [V.int (lo + d), .int (lo + d + 1 + e)]) hr5
      have tl := tp.len
      have hrs : rs.length = i := by rw [tl, hl]
      refine ⟨L, _, _, rfl, rfl, sr _ _ hL5, small1000 (by omega), ?_⟩
      have hrr : (upd (upd H5 r (.tup [V.int (lo + d), .int (lo + d + 1 + e)])) L (.lst (rs ++ [V.ref r]))) r = some (.tup [V.int (lo + d), .int (lo + d + 1 + e)]) := by
        rw [upd_ne nLr.symm]
        exact upd_same
      refine ⟨_, rfl, _, rfl, L, _, _, _, rfl, rfl, SqL.of upd_same, at_back1 (v := .ref r) (by rw [List.length_append]; show 0 < _ + 1; omega) (by rw [List.length_append, List.getElem?_append_right (by show rs.length ≤ rs.length + 1 - 1; omega)]; show [V.ref r][rs.length + 1 - 1 - rs.length]? = _; rw [show rs.length + 1 - 1 - rs.length = 0 by omega]; rfl), r, _, _, _, rfl, rfl, SqT.of hrr, atI_nat (j := 1) rfl, ?_⟩
      have hLH : H L = none := hL
      have kx6 : Kx a H (upd (upd H5 r (.tup [V.int (lo + d), .int (lo + d + 1 + e)])) L (.lst (rs ++ [V.ref r]))) := fun c u n h => by
        rw [upd_ne (ne_of_none h hLH)]
        exact sr _ _ (kx5 c u n (kx4 c u n (kx c u n h)))
      have tp5 : Tups a (upd H5 r (.tup [V.int (lo + d), .int (lo + d + 1 + e)])) rs ws := ((tp.kx kx4).kx kx5).kx (Kx.of sr)
      have tp6 : Tups a (upd (upd H5 r (.tup [V.int (lo + d), .int (lo + d + 1 + e)])) L (.lst (rs ++ [V.ref r]))) rs ws := tp5.off (sr _ _ hL5)
      refine ⟨rs ++ [.ref r], ws ++ [(lo + d, lo + d + 1 + e)], lo + d + 1 + e, _, rfl, upd_same, tp6.snoc nra hrr, wo.snoc (by omega) (fun p hp => by have := hlast p hp; omega), ?_, ?_, ?_, by omega, by omega, kx6, ((R5.mono sr).upd naL).le (by omega)⟩
      · rw [List.length_append, hl]
        rfl
      · intro p hp
        rcases List.mem_append.mp hp with hp | hp
        · exact hb2 p hp
        · obtain rfl := List.mem_singleton.mp hp
          constructor
          · show -10 ≤ lo + d
            omega
          · show lo + d + 1 + e ≤ 100
            omega
      · intro p hp
        rw [List.length_append, List.getElem?_append_right (by show ws.length ≤ ws.length + 1 - 1; omega)] at hp
        have hp : [(lo + d, lo + d + 1 + e)][ws.length + 1 - 1 - ws.length]? = some p := hp
        rw [show ws.length + 1 - 1 - ws.length = 0 by omega] at hp
        have hp : some (lo + d, lo + d + 1 + e) = some p := hp
        obtain rfl := Option.some.inj hp
        exact Int.le_refl _
    · rintro σ H3 ⟨rs, ws, lo, v3, rfl, hL3, tp, wo, hl, hb2, hlast, l0, l1, kx, R⟩
      exact ⟨_, rfl, k L rs ws H3 naL.symm hL3 tp wo (by omega) hb2 kx (R.le (by omega))⟩
end
end RS
namespace RS
open PySem L2
/-- what a drawn scene's parts may be -/
structure PartsOk (gs : List Int) (tl : Tl) (bs : List Int) (ws : List (Int × Int)) (n : Int) : Prop where
  sm : Small gs
  tk : TlOk gs.length tl
  b1 : 1 ≤ bs.length
  b8 : bs.length ≤ 8
  bb : ∀ b ∈ bs, 0 ≤ b ∧ b < 40
  wo : WinOk ws
  w3 : ws.length ≤ 3
  wb : ∀ p ∈ ws, -10 ≤ p.1 ∧ p.2 ≤ 100
  n1 : 1 ≤ n
  n8 : n ≤ 8
/-- the tuple of five parts at u -/
structure Parts (a : Addr) (H : Hp) (u g t s w : Addr) (n : Int) (gs : List Int) (tl : Tl) (bs : List Int) (rs : List V) (ws : List (Int × Int)) : Prop where
  hu : H u = some (.tup [.ref g, .ref t, .ref s, .ref w, .int n])
  nu : u ≠ a
  hg : H g = some (.lst (gs.map V.int))
  ng : g ≠ a
  ht : H t = some (.tup tl.vs)
  nt : t ≠ a
  hs : H s = some (.lst (bs.map V.int))
  ns : s ≠ a
  hw : H w = some (.lst rs)
  nw : w ≠ a
  tp : Tups a H rs ws
theorem Parts.kx {a : Addr} {H H' : Hp} {u g t s w : Addr} {n : Int} {gs : List Int} {tl : Tl} {bs : List Int} {rs : List V} {ws : List (Int × Int)} (B : Parts a H u g t s w n gs tl bs rs ws) (k : Kx a H H') : Parts a H' u g t s w n gs tl bs rs ws :=
  ⟨k _ _ B.nu B.hu, B.nu, k _ _ B.ng B.hg, B.ng, k _ _ B.nt B.ht, B.nt, k _ _ B.ns B.hs, B.ns, k _ _ B.nw B.hw, B.nw, B.tp.kx k⟩
section
variable {P : Program} {w : World} {K : PySem.W.Frag} {mg : Str → Option Value} {base : Heap}
def spPts : Sp := fun vs H Q _ => ∃ (a : Addr) (b : Nat), vs = [.ref a] ∧ Src H a b ∧ b ≤ 40000 ∧
  ∀ (u g t s w : Addr) (n : Int) (gs : List Int) (tl : Tl) (bs : List Int) (rs : List V) (ws : List (Int × Int)) (H' : Hp), Parts a H' u g t s w n gs tl bs rs ws → PartsOk gs tl bs ws n → Kx a H H' → Src H' a (b + 60) → Q (.ref u) H'
theorem scPts : FnScope ["_law_well_here", "_law_steps", "_law_ending", "_law_wide", "_law_begins", "_law_k"] ["_law_well_here"] (defScope s_law_parts) := ⟨rfl, rfl, rfl, by decide +kernel, rfl, by decide +kernel, by decide +kernel⟩
theorem ok_pts {f C fN fO fG fW : Addr} {fd fdN fdO fdG fdW : FuncData} (F : Fun K "_law_parts" "_law_parts" s_law_parts f fd) (T : Txt K mg C)
    (GN : FnOk P w K mg base CX0 2 fN fdN ["_law_well_here", "_law_many"] spNext) (bN : Binds K fdN ["_law_well_here", "_law_many"] []) (mN : mg "_law_draw" = some (.ref fN)) (kN : PySem.W.keepIn K (.ref fN) = true)
    (GO : FnOk P w K mg base CX0 3 fO fdO ["_law_well_here", "_law_some"] spOne) (bO : Binds K fdO ["_law_well_here", "_law_some"] []) (mO : mg "_law_one" = some (.ref fO)) (kO : PySem.W.keepIn K (.ref fO) = true)
    (GG : FnOk P w K mg base CX0 4 fG fdG ["_law_well_here"] spGps) (bG : Binds K fdG ["_law_well_here"] []) (mG : mg "_law_gaps" = some (.ref fG)) (kG : PySem.W.keepIn K (.ref fG) = true)
    (GW : FnOk P w K mg base CX0 3 fW fdW ["_law_well_here"] spWin) (bW : Binds K fdW ["_law_well_here"] []) (mW : mg "_law_windows" = some (.ref fW)) (kW : PySem.W.keepIn K (.ref fW) = true) : FnOk P w K mg base CX0 5 f fd ["_law_well_here"] spPts := by
  refine F.ok scPts (fun vs H Q E h => ?_) (fun cdv A outer s H vs Q E hr h => ?_)
  · obtain ⟨a, b, rfl, _⟩ := h
    rfl
  · obtain ⟨a, b, rfl, S, hb, k⟩ := h
    have hr2 := hr.mono (show 2 ≤ 4 by decide)
    have hr3 := hr.mono (show 3 ≤ 4 by decide)
    refine ⟨_, (pss_cons (ps_asg (pe_call GG hr rfl mG kG bG .nil pass0 (pa_cons (pv 0) pa_nil)) (pg_tup rfl (pgs_cons (pg_name (i := 1) scPts.nd rfl (Or.inl rfl)) (pgs_cons (pg_name (i := 2) scPts.nd rfl (Or.inl rfl)) pgs_nil)))) (pss_cons (ps_set (i := 3) scPts.nd rfl (Or.inr rfl) (pe_call GO hr3 rfl mO kO bO .nil pass0 (pa_cons (pv 0) (pa_cons (pe_lst (pa_cons pe_int (pa_cons pe_int (pa_cons pe_int pa_nil)))) pa_nil)))) (pss_cons (ps_setLc (i := 4) (own := [("_law_k", 5)]) (g := gName 5) (tt := tYes) (by rfl) scPts.nd rfl rfl (sw_true rfl rfl rfl (by decide +kernel)) (pi_range1 rfl T.range (pa_cons (pe_op op_add pe_int (pe_call GN hr2 rfl mN kN bN .nil pass0 (pa_cons (pv 0) (pa_cons pe_int pa_nil)))) pa_nil)) (blkOk_by (own := [("_law_k", 5)]) (N := ["_law_well_here", "_law_steps", "_law_ending", "_law_wide", "_law_begins", "_law_k"]) (sc := defScope s_law_parts) (by decide +kernel))
        (fun _ _ _ _ _ => (pg_name (i := 5) scPts.nd rfl (Or.inl rfl))) (fun _ _ _ _ _ => pts_nil) (fun _ _ _ _ _ => (pe_call GN hr2 rfl mN kN bN .nil pass0 (pa_cons (pv 0) (pa_cons (pv 3) pa_nil))))) (pss_one (ps_ret (pe_tup (pa_cons (pv 1) (pa_cons (pv 2) (pa_cons (pv 4) (pa_cons (pe_call GW hr3 rfl mW kW bW .nil pass0 (pa_cons (pv 0) pa_nil)) (pa_cons (pe_op op_add pe_int (pe_call GN hr2 rfl mN kN bN .nil pass0 (pa_cons (pv 0) (pa_cons (pe_call GO hr3 rfl mO kO bO .nil pass0 (pa_cons (pv 0) (pa_cons (pe_lst (pa_cons pe_int (pa_cons pe_int (pa_cons pe_int pa_nil)))) pa_nil))) pa_nil)))) pa_nil))))))))))), ?_⟩
    refine ⟨_, rfl, a, b, rfl, S, by omega, fun u0 g t gs tl H1 nu0 ng nt hu0 hg ht sm tk kx1 R1 => ?_⟩
    refine ⟨u0, _, rfl, SqT.of hu0, rfl, _, _, rfl, _, _, rfl, rfl, ?_⟩
    refine ⟨_, rfl, (by show 3 ≤ sizeLine; decide), fun q hq => ?_⟩
    refine ⟨a, q, _, b + 20, rfl, R1.mono (same_new hq), by omega, (R1.new hq).symm, upd_same, by show 0 < 3; decide, by show 3 < 1000; decide, fun x H2 hx kx2 R2 => ?_⟩
    obtain ⟨wd, rfl, wd0, wd1⟩ : ∃ wd : Int, x = .int wd ∧ 3 ≤ wd ∧ wd ≤ 40 := by
      simp only [List.mem_cons, List.not_mem_nil, or_false] at hx
      rcases hx with rfl | rfl | rfl <;> exact ⟨_, rfl, by decide, by decide⟩
    have kx2 : Kx a H1 H2 := (Kx.of (same_new hq)).trans kx2
    refine ⟨_, rfl, a, 8, b + 21, rfl, R2, by omega, by decide, by decide, fun cn H3 cn0 cn1 kx3 R3 => ⟨_, _, rfl, rfl, ?_⟩⟩
    have kx3 : Kx a H1 H3 := kx2.trans kx3
    refine ⟨1 + cn, rfl, by omega, by omega, fun D hD => ?_⟩
    have naD : a ≠ D := R3.new hD
    refine lc_range (lo := 0) (n := (1 + cn).toNat) (fun i H' => ∃ bs : List Int, bs.length = i ∧ (∀ g ∈ bs, 0 ≤ g ∧ g < 40) ∧ H' D = some (.lst (bs.map V.int)) ∧ Kx a H3 H' ∧ Src H' a (b + 22 + i)) ⟨[], rfl, fun g hg => (nomatch hg), upd_same, Kx.of (same_new hD), R3.mono (same_new hD)⟩ (fun i H' hi p => ?_) (fun H4 p => ?_)
    · obtain ⟨bs, hl, hbs, hd, kx, R⟩ := p
      refine ⟨rfl, ?_⟩
      refine yes_t (iteT ?_)
      refine ⟨_, rfl, _, rfl, a, wd, b + 22 + i, rfl, R, by omega, by omega, by omega, fun r H5 r0 r1 kx5 R5 => ⟨bs.map V.int, kx5 D _ naD.symm hd, ?_, bs ++ [r], ?_, ?_, ?_, ?_, R5.upd naD⟩⟩
      · rw [List.length_map]
        exact small1000 (by omega)
      · rw [List.length_append, hl]
        rfl
      · intro g hm
        rcases List.mem_append.mp hm with hm | hm
        · exact hbs g hm
        · obtain rfl := List.mem_singleton.mp hm
          omega
      · rw [upd_same, List.map_append]
        rfl
      · intro c u n e
        rw [upd_ne (ne_of_none e hD)]
        exact kx5 c u n (kx c u n e)
    obtain ⟨bs, hl, hbs, hd, kx4, R4⟩ := p
    refine ⟨_, rfl, _, rfl, _, rfl, _, rfl, a, b + 22 + (1 + cn).toNat, rfl, R4, by omega, fun l rs ws H5 nl hl5 tp5 wo w3 wb kx5 R5 => ?_⟩
    refine ⟨_, rfl, _, rfl, (by show 3 ≤ sizeLine; decide), fun q2 hq2 => ?_⟩
    refine ⟨a, q2, _, b + 22 + (1 + cn).toNat + 10, rfl, R5.mono (same_new hq2), by omega, (R5.new hq2).symm, upd_same, by show 0 < 3; decide, by show 3 < 1000; decide, fun x H6 hx kx6 R6 => ?_⟩
    obtain ⟨mx, rfl, mx0, mx1⟩ : ∃ mx : Int, x = .int mx ∧ 1 ≤ mx ∧ mx ≤ 8 := by
      simp only [List.mem_cons, List.not_mem_nil, or_false] at hx
      rcases hx with rfl | rfl | rfl <;> exact ⟨_, rfl, by decide, by decide⟩
    refine ⟨a, mx, b + 22 + (1 + cn).toNat + 11, rfl, R6, by omega, mx0, by omega, fun z H7 z0 z1 kx7 R7 => ⟨_, _, rfl, rfl, (by show 5 ≤ sizeLine; decide), fun u hu => ?_⟩⟩
    have k57 : Kx a H5 H7 := (Kx.of (same_new hq2)).trans (kx6.trans kx7)
    have k47 : Kx a H4 H7 := kx5.trans k57
    have k37 : Kx a H3 H7 := kx4.trans k47
    have k17 : Kx a H1 H7 := kx3.trans k37
    have sU := same_new (o := .tup [V.ref g, .ref t, .ref D, .ref l, .int (1 + z)]) hu
    refine k u g t D l (1 + z) gs tl bs rs ws _ ⟨upd_same, (R7.new hu).symm, sU _ _ (k17 _ _ ng hg), ng, sU _ _ (k17 _ _ nt ht), nt, sU _ _ (k47 _ _ naD.symm hd), naD.symm, sU _ _ (k57 _ _ nl hl5), nl, (tp5.kx k57).kx (Kx.of sU)⟩ ⟨sm, tk, by omega, by omega, hbs, wo, w3, wb, by omega, by omega⟩ (kx1.trans (k17.trans (Kx.of sU))) ((R7.mono sU).le (by omega))
end
end RS
namespace RS
open PySem L2
section
variable {P : Program} {w : World} {K : PySem.W.Frag} {mg : Str → Option Value} {base : Heap}
/-! ### check_starts: what is accepted -/
def spChS : Sp := fun vs H Q _ => ∃ (s : Addr) (bs : List Int) (few : Nat), vs = [.ref s, .int (few : Int)] ∧ H s = some (.lst (bs.map V.int)) ∧ few ≤ bs.length ∧ bs.length ≤ 40 ∧ ∀ H', Same H H' → Q .non H'
theorem scChS : FnScope ["value", "fewest", "at", "start"] ["value", "fewest"] (defScope s_check_starts) := ⟨rfl, rfl, rfl, by decide +kernel, rfl, by decide +kernel, by decide +kernel⟩
theorem ok_chS {f C fI : Addr} {fd fdI : FuncData} (F : Fun K "check_starts" "check_starts" s_check_starts f fd) (T : Txt K mg C) (mC : ∃ t, mg "MOST_CLIENTS" = some (.int 40 t))
    (GI : FnOk P w K mg base CX0 1 fI fdI ["value"] spIsInt) (bI : Binds K fdI ["value"] []) (mI : mg "is_integer" = some (.ref fI)) (kI : PySem.W.keepIn K (.ref fI) = true) : FnOk P w K mg base CX0 2 f fd ["value", "fewest"] spChS := by
  obtain ⟨t1, m1⟩ := mC
  refine F.ok scChS (fun vs H Q E h => ?_) (fun cdv A outer s H vs Q E hr h => ?_)
  · obtain ⟨s, bs, few, rfl, _⟩ := h
    rfl
  · obtain ⟨s, bs, few, rfl, hs, h1, h40, k⟩ := h
    refine ⟨_, (pss_cons (ps_if (PW.pt (pw_or (pt_not (pt_val (pe_callB call_isi (by rfl) T.isi (by decide +kernel) (pa_cons (pv 0) (pa_cons (pe_bltn (v := .ty "list") (by rfl) T.list (by decide +kernel) rfl) pa_nil))))) (pw_or1 (pt_not (pt_chain op_le op_le (pv 1) (pe_callB call_len_seq (by rfl) T.len (by decide +kernel) (pa_cons (pv 0) pa_nil)) (pe_glob (v := .int 40) rfl m1 ⟨_, rfl⟩)))))) (pss_one ps_never) pss_nil) (pss_one (ps_for PassesOwn.never rfl (pi_enum (by rfl) T.enum (pa_cons (pv 0) pa_nil)) (pg_tup rfl (pgs_cons (pg_name (i := 2) scChS.nd rfl (Or.inl rfl)) (pgs_cons (pg_name (i := 3) scChS.nd rfl (Or.inl rfl)) pgs_nil)))
        (pss_one (ps_if (pt_not (pt_val (pe_call GI hr rfl mI kI bI .nil pass0 (pa_cons (pv 3) pa_nil)))) (pss_one ps_never) pss_nil))))), ?_⟩
    refine ⟨_, rfl, _, _, _, _, _, rfl, .ty _, .base (.lst hs), kit_ty (r := true) (by decide +kernel), true, rfl, iteF ?_⟩
    refine ⟨_, rfl, _, rfl, s, _, rfl, .inl (SqL.of hs), _, _, rfl, rfl, _, rfl, ?_⟩
    rw [List.length_map]
    refine iteTb (decide_eq_true (by omega)) ?_
    refine ⟨_, _, rfl, rfl, _, rfl, iteFb (by rw [decide_eq_true (by omega)]; rfl) ?_⟩
    refine ⟨_, rfl, s, _, rfl, SqL.of hs, for_it (walk_enum (a := s) (xs := bs.map V.int)) (fun i σ H' => (∃ v1 v2, σ = [some (.ref s), some (.int (few : Int)), v1, v2]) ∧ Same H H') ⟨⟨_, _, rfl⟩, Same.refl H⟩ (fun i σ H' _ p => SqL.of (p.2 _ _ hs)) ?_ ?_⟩
    · rintro i x σ H1 H2 hi ⟨⟨v1, v2, rfl⟩, S⟩ ⟨T2, x1, y1, rfl, hT, rfl, hx1, hy1⟩
      obtain rfl := Option.some.inj hx1
      obtain ⟨b, _, rfl⟩ := map_of hy1
      have sT := same_new (o := .tup [V.int (i : Nat), .int b]) hT
      refine ⟨T2, _, rfl, SqT.of upd_same, rfl, _, _, rfl, _, _, rfl, rfl, ?_⟩
      exact ⟨_, rfl, b, rfl, true, rfl, iteF ⟨⟨_, _, rfl⟩, S.trans sT⟩⟩
    · rintro σ H1 ⟨_, S⟩
      exact k H1 S
end
end RS
namespace RS
open PySem L2
/-! ### what the walk asks of the class Scene -/
structure TxtS (K : PySem.W.Frag) (mg : Str → Option Value) (CS : Addr) : Prop where
  cl : Cls K CS
  nR : NoAttr K CS "_rule"
  nS : NoAttr K CS "_starts"
  nW : NoAttr K CS "_outages"
  nN : NoAttr K CS "_length"
  mgS : mg "Scene" = some (.ref CS)
  enum : mg "enumerate" = none
  mC : ∃ t, mg "MOST_CLIENTS" = some (.int 40 t)
  mO : ∃ t, mg "_MOST_OUTAGES" = some (.int 10 t)
def sflds (r s w : Addr) (n : Int) : List (Str × V) := putF "_length" (.int n) (putF "_outages" (.ref w) (putF "_starts" (.ref s) (putF "_rule" (.ref r) [])))
theorem sk1 : ¬ (("_rule" : Str) = "_starts") := by decide +kernel
theorem sk2 : ¬ (("_rule" : Str) = "_outages") := by decide +kernel
theorem sk3 : ¬ (("_rule" : Str) = "_length") := by decide +kernel
theorem sk4 : ¬ (("_starts" : Str) = "_outages") := by decide +kernel
theorem sk5 : ¬ (("_starts" : Str) = "_length") := by decide +kernel
theorem sk6 : ¬ (("_outages" : Str) = "_length") := by decide +kernel
theorem sflds_r (r s w : Addr) (n : Int) : (sflds r s w n).lookup ("_rule" : Str) = some (.ref r) := by
  unfold sflds
  rw [lookup_putF, if_neg sk3, lookup_putF, if_neg sk2, lookup_putF, if_neg sk1, lookup_putF, if_pos rfl]
theorem sflds_s (r s w : Addr) (n : Int) : (sflds r s w n).lookup ("_starts" : Str) = some (.ref s) := by
  unfold sflds
  rw [lookup_putF, if_neg sk5, lookup_putF, if_neg sk4, lookup_putF, if_pos rfl]
theorem sflds_w (r s w : Addr) (n : Int) : (sflds r s w n).lookup ("_outages" : Str) = some (.ref w) := by
  unfold sflds
  rw [lookup_putF, if_neg sk6, lookup_putF, if_pos rfl]
theorem sflds_n (r s w : Addr) (n : Int) : (sflds r s w n).lookup ("_length" : Str) = some (.int n) := by
  unfold sflds
  rw [lookup_putF, if_pos rfl]
theorem sflds_no (r s w : Addr) (n : Int) {m : Str} (h1 : ¬ m = "_length") (h2 : ¬ m = "_outages") (h3 : ¬ m = "_starts") (h4 : ¬ m = "_rule") : (sflds r s w n).lookup m = none := by
  unfold sflds
  rw [lookup_putF, if_neg h1, lookup_putF, if_neg h2, lookup_putF, if_neg h3, lookup_putF, if_neg h4]
  rfl
/-- starts, windows and a length that are accepted -/
structure SceneOk (bs : List Int) (ws : List (Int × Int)) (n : Int) : Prop where
  b1 : 1 ≤ bs.length
  b40 : bs.length ≤ 40
  wo : WinOk ws
  w10 : ws.length ≤ 10
  n1 : 1 ≤ n
/-- a scene stands at p, all of it apart from a -/
structure SceneAt (C CS a : Addr) (H : Hp) (p r g t o s w : Addr) (gs : List Int) (tl : Tl) (bs : List Int) (rs : List V) (ws : List (Int × Int)) (n : Int) : Prop where
  ob : ∃ dx, H p = some (.ins CS dx (sflds r s w n))
  R : RuleAt C H r g t o gs tl
  hs : H s = some (.lst (bs.map V.int))
  hw : H w = some (.lst rs)
  tp : Tups a H rs ws
  ok : SceneOk bs ws n
  na : p ≠ a ∧ r ≠ a ∧ g ≠ a ∧ t ≠ a ∧ o ≠ a ∧ s ≠ a ∧ w ≠ a
theorem RuleAt.kx {C a : Addr} {H H' : Hp} {p g t o : Addr} {gs : List Int} {tl : Tl} (R : RuleAt C H p g t o gs tl) (h : Kx a H H') (np : p ≠ a) (ng : g ≠ a) (nt : t ≠ a) (no : o ≠ a) : RuleAt C H' p g t o gs tl :=
  ⟨let ⟨dx, e⟩ := R.ob; ⟨dx, h _ _ np e⟩, h _ _ ng R.hg, h _ _ nt R.ht, h _ _ no R.ho, R.okG, R.okT⟩
theorem SceneAt.kx {C CS a : Addr} {H H' : Hp} {p r g t o s w : Addr} {gs : List Int} {tl : Tl} {bs : List Int} {rs : List V} {ws : List (Int × Int)} {n : Int} (S : SceneAt C CS a H p r g t o s w gs tl bs rs ws n) (k : Kx a H H') : SceneAt C CS a H' p r g t o s w gs tl bs rs ws n := by
  obtain ⟨n1, n2, n3, n4, n5, n6, n7⟩ := S.na
  exact ⟨let ⟨dx, e⟩ := S.ob; ⟨dx, k _ _ n1 e⟩, S.R.kx k n2 n3 n4 n5, k _ _ n6 S.hs, k _ _ n7 S.hw, S.tp.kx k, S.ok, S.na⟩
theorem Tups.ok {a : Addr} {H : Hp} {rs : List V} {ws : List (Int × Int)} (t : Tups a H rs ws) (o : WinOk ws) {i : Nat} {x : V} (hx : rs[i]? = some x) : ∃ r f e, x = .ref r ∧ ws[i]? = some (f, e) ∧ r ≠ a ∧ H r = some (.tup [.int f, .int e]) ∧ f < e := by
  obtain ⟨r, f, e, h1, h2, h3, h4⟩ := t.at hx
  exact ⟨r, f, e, h1, h2, h3, h4, o.1 _ (List.mem_of_getElem? h2)⟩
section
variable {P : Program} {w : World} {K : PySem.W.Frag} {mg : Str → Option Value} {base : Heap}
/-- a tuple of two integers -/
def spTwo : Sp := fun vs H Q _ => ∃ (r : Addr) (f e : Int), vs = [.ref r] ∧ H r = some (.tup [.int f, .int e]) ∧ Q (.bl true) H
theorem scTwo : FnScope ["value"] ["value"] (defScope s_are_two_integers) := ⟨rfl, rfl, rfl, by decide +kernel, rfl, by decide +kernel, by decide +kernel⟩
theorem ok_two {f C fI : Addr} {fd fdI : FuncData} (F : Fun K "are_two_integers" "are_two_integers" s_are_two_integers f fd) (T : Txt K mg C)
    (GI : FnOk P w K mg base CX0 1 fI fdI ["value"] spIsInt) (bI : Binds K fdI ["value"] []) (mI : mg "is_integer" = some (.ref fI)) (kI : PySem.W.keepIn K (.ref fI) = true) : FnOk P w K mg base CX0 2 f fd ["value"] spTwo := by
  refine F.ok scTwo (fun vs H Q E h => ?_) (fun cdv A outer s H vs Q E hr h => ?_)
  · obtain ⟨r, f, e, rfl, _⟩ := h
    rfl
  · obtain ⟨r, f, e, rfl, hr1, k⟩ := h
    refine ⟨_, (pss_cons (ps_if (PW.pt (pw_or (pt_not (pt_val (pe_callB call_isi (by rfl) T.isi (by decide +kernel) (pa_cons (pv 0) (pa_cons (pe_bltn (v := .ty "tuple") (by rfl) T.tuple (by decide +kernel) rfl) pa_nil))))) (pw_or1 (pt_cmpR op_ne (pe_callB call_len_seq (by rfl) T.len (by decide +kernel) (pa_cons (pv 0) pa_nil)) pe_int (nomark _))))) (pss_one (ps_ret pe_bl)) pss_nil) (pss_one (ps_ret (pe_and (pe_call GI hr rfl mI kI bI .nil pass0 (pa_cons (pe_ix ix_tup (pv 0) pe_int (fun _ _ => rfl)) pa_nil)) (pe_one (pe_call GI hr rfl mI kI bI .nil pass0 (pa_cons (pe_ix ix_tup (pv 0) pe_int (fun _ _ => rfl)) pa_nil))))))), ?_⟩
    refine ⟨_, rfl, _, _, _, _, _, rfl, .ty _, .base (.tup hr1), kit_ty (r := true) (by decide +kernel), true, rfl, iteF ?_⟩
    refine ⟨_, rfl, r, _, rfl, .inr (SqT.of hr1), rfl, _, rfl, iteFb (by rfl) ?_⟩
    refine ⟨_, rfl, r, _, _, _, rfl, rfl, SqT.of hr1, atI_nat (j := 0) rfl, f, rfl, true, rfl, iteT ?_⟩
    exact ⟨_, rfl, r, _, _, _, rfl, rfl, SqT.of hr1, atI_nat (j := 1) rfl, e, rfl, k⟩
def spIsO : Sp := fun vs H Q _ => ∃ (r : Addr) (f e : Int), vs = [.ref r] ∧ H r = some (.tup [.int f, .int e]) ∧ f < e ∧ Q (.bl true) H
theorem scIsO : FnScope ["value"] ["value"] (defScope s_are_slots) := ⟨rfl, rfl, rfl, by decide +kernel, rfl, by decide +kernel, by decide +kernel⟩
theorem ok_isO {f C fI : Addr} {fd fdI : FuncData} (F : Fun K "are_slots" "are_slots" s_are_slots f fd) (T : Txt K mg C)
    (GI : FnOk P w K mg base CX0 2 fI fdI ["value"] spTwo) (bI : Binds K fdI ["value"] []) (mI : mg "are_two_integers" = some (.ref fI)) (kI : PySem.W.keepIn K (.ref fI) = true) : FnOk P w K mg base CX0 3 f fd ["value"] spIsO := by
  refine F.ok scIsO (fun vs H Q E h => ?_) (fun cdv A outer s H vs Q E hr h => ?_)
  · obtain ⟨r, f, e, rfl, _⟩ := h
    rfl
  · obtain ⟨r, f, e, rfl, hr1, hfe, k⟩ := h
    refine ⟨_, (pss_one (ps_ret (pe_and (pe_call GI hr rfl mI kI bI .nil pass0 (pa_cons (pv 0) pa_nil)) (pe_one (pe_cmpR op_lt (pe_ix ix_tup (pv 0) pe_int (fun _ _ => rfl)) (pe_ix ix_tup (pv 0) pe_int (fun _ _ => rfl)) (nomark _)))))), ?_⟩
    refine ⟨_, rfl, r, f, e, rfl, hr1, true, rfl, iteT ?_⟩
    refine ⟨_, rfl, r, _, _, _, rfl, rfl, SqT.of hr1, atI_nat (j := 0) rfl, _, rfl, r, _, _, _, rfl, rfl, SqT.of hr1, atI_nat (j := 1) rfl, _, _, rfl, rfl, ?_⟩
    show Q (.bl (decide (f < e))) H
    rw [decide_eq_true hfe]
    exact k
def spChO : Sp := fun vs H Q _ => ∃ (a w : Addr) (rs : List V) (ws : List (Int × Int)), vs = [.ref w] ∧ H w = some (.lst rs) ∧ Tups a H rs ws ∧ WinOk ws ∧ ws.length ≤ 10 ∧ ∀ H', Same H H' → Q .non H'
theorem scChO : FnScope ["value", "at", "outage"] ["value"] (defScope s_check_outages) := ⟨rfl, rfl, rfl, by decide +kernel, rfl, by decide +kernel, by decide +kernel⟩
theorem ok_chO {f C CS fO : Addr} {fd fdO : FuncData} (F : Fun K "_check_outages" "_check_outages" s_check_outages f fd) (T : Txt K mg C) (TS : TxtS K mg CS)
    (GO : FnOk P w K mg base CX0 3 fO fdO ["value"] spIsO) (bO : Binds K fdO ["value"] []) (mO : mg "are_slots" = some (.ref fO)) (kO : PySem.W.keepIn K (.ref fO) = true) : FnOk P w K mg base CX0 4 f fd ["value"] spChO := by
  obtain ⟨t1, m1⟩ := TS.mO
  refine F.ok scChO (fun vs H Q E h => ?_) (fun cdv A outer s H vs Q E hr h => ?_)
  · obtain ⟨a, w, rs, ws, rfl, _⟩ := h
    rfl
  · obtain ⟨a, wl, rs, ws, rfl, hw, tp, wo, w10, k⟩ := h
    have hrl := tp.len
    refine ⟨_, (pss_cons (ps_if (PW.pt (pw_or (pt_not (pt_val (pe_callB call_isi (by rfl) T.isi (by decide +kernel) (pa_cons (pv 0) (pa_cons (pe_bltn (v := .ty "list") (by rfl) T.list (by decide +kernel) rfl) pa_nil))))) (pw_or1 (pt_cmpR op_gt (pe_callB call_len_seq (by rfl) T.len (by decide +kernel) (pa_cons (pv 0) pa_nil)) (pe_glob (v := .int 10) rfl m1 ⟨_, rfl⟩) (nomark _))))) (pss_one ps_never) pss_nil) (pss_one (ps_for PassesOwn.never rfl (pi_enum (by rfl) TS.enum (pa_cons (pv 0) pa_nil)) (pg_tup rfl (pgs_cons (pg_name (i := 1) scChO.nd rfl (Or.inl rfl)) (pgs_cons (pg_name (i := 2) scChO.nd rfl (Or.inl rfl)) pgs_nil)))
        (pss_one (ps_if (PW.pt (pw_or (pt_not (pt_val (pe_call GO hr rfl mO kO bO .nil pass0 (pa_cons (pv 2) pa_nil)))) (pw_or1 (PW.pt (pw_and (pt_cmpR op_gt (pv 1) pe_int (nomark _)) (pw_and1 (pt_cmpR op_lt (pe_ix ix_tup (pv 2) pe_int (fun _ _ => rfl)) (pe_ix ix_tup (pe_ix ix_list (pv 0) (pe_op op_sub (pv 1) pe_int) (fun _ _ => rfl)) pe_int (fun _ _ => rfl)) (nomark _)))))))) (pss_one ps_never) pss_nil))))), ?_⟩
    refine ⟨_, rfl, _, _, _, _, _, rfl, .ty _, .base (.lst hw), kit_ty (r := true) (by decide +kernel), true, rfl, iteF ?_⟩
    refine ⟨_, rfl, wl, _, rfl, .inl (SqL.of hw), _, _, rfl, rfl, _, rfl, iteFb (decide_eq_false (by omega)) ?_⟩
    refine ⟨_, rfl, wl, _, rfl, SqL.of hw, for_it (walk_enum (a := wl) (xs := rs)) (fun i σ H' => (∃ v1 v2, σ = [some (.ref wl), v1, v2]) ∧ Same H H') ⟨⟨_, _, rfl⟩, Same.refl H⟩ (fun i σ H' _ p => SqL.of (p.2 _ _ hw)) ?_ ?_⟩
    · rintro i x σ H1 H2 hi ⟨⟨v1, v2, rfl⟩, S⟩ ⟨T2, x1, y1, rfl, hT, rfl, hx1, hy1⟩
      obtain rfl := Option.some.inj hx1
      obtain ⟨r, f, e, rfl, hwi, nr, hrr, hfe⟩ := tp.ok wo hy1
      have sT := same_new (o := .tup [V.int (i : Nat), .ref r]) hT
      have S2 := S.trans sT
      have hr2 := S2 _ _ hrr
      refine ⟨T2, _, rfl, SqT.of upd_same, rfl, _, _, rfl, _, _, rfl, rfl, ?_⟩
      refine ⟨_, rfl, r, f, e, rfl, hr2, hfe, true, rfl, iteF ?_⟩
      refine ⟨_, rfl, _, _, rfl, rfl, _, rfl, ?_⟩
      by_cases hi0 : 0 < i
      · refine iteTb (decide_eq_true (by omega)) ?_
        obtain ⟨x0, hx0⟩ : ∃ x0, rs[i - 1]? = some x0 := ⟨_, List.getElem?_eq_getElem (by omega)⟩
        obtain ⟨r0, f0, e0, rfl, hw0, _, hr0, _⟩ := tp.ok wo hx0
        have hle : e0 ≤ f := wo.2 (i - 1) _ _ hw0 (by rw [show i - 1 + 1 = i by omega]; exact hwi)
        refine ⟨_, rfl, r, _, _, _, rfl, rfl, SqT.of hr2, atI_nat (j := 0) rfl, _, rfl, _, rfl, _, _, rfl, rfl, wl, _, _, .ref r0, rfl, rfl, SqL.of (S2 _ _ hw), ?_, r0, _, _, _, rfl, rfl, SqT.of (S2 _ _ hr0), atI_nat (j := 1) rfl, _, _, rfl, rfl, _, rfl, iteFb (decide_eq_false (by omega)) ⟨⟨_, _, rfl⟩, S2⟩⟩
        rw [show ((i : Nat) : Int) - 1 = ((i - 1 : Nat) : Int) by omega]
        exact atI_nat hx0
      · refine iteFb (decide_eq_false (by omega)) ?_
        exact iteF ⟨⟨_, _, rfl⟩, S2⟩
    · rintro σ H1 ⟨_, S⟩
      exact k H1 S
end
end RS
namespace RS
open PySem L2
section
variable {P : Program} {w : World} {K : PySem.W.Frag} {mg : Str → Option Value} {base : Heap}
/-! ### Scene.__init__: what is accepted -/
def spSInit (C CS : Addr) : Sp := fun vs H Q _ => ∃ (a p dx r g t o s w : Addr) (gs : List Int) (tl : Tl) (bs : List Int) (rs : List V) (ws : List (Int × Int)) (n : Int), vs = [.ref p, .ref r, .ref s, .ref w, .int n] ∧ H p = some (.ins CS dx []) ∧ RuleAt C H r g t o gs tl ∧ H s = some (.lst (bs.map V.int)) ∧ H w = some (.lst rs) ∧ Tups a H rs ws ∧ SceneOk bs ws n ∧
  (∃ u, H a = some u) ∧ p ≠ a ∧ r ≠ a ∧ g ≠ a ∧ t ≠ a ∧ o ≠ a ∧
  ∀ (s' w' : Addr) (rs' : List V) (H' : Hp), (∀ b u, H b = some u → b ≠ p → H' b = some u) → SceneAt C CS a H' p r g t o s' w' gs tl bs rs' ws n → Q .non H'
theorem scSInit : FnScope ["self", "rule", "starts", "outages", "length", "first", "after"] ["self", "rule", "starts", "outages", "length"] (defScope s_Scene_ddinitdd) := ⟨rfl, rfl, rfl, by decide +kernel, rfl, by decide +kernel, by decide +kernel⟩
theorem ok_sinit {f C CS fI fS fO : Addr} {fd fdI fdS fdO : FuncData} (F : Fun K "__init__" "Scene.__init__" s_Scene_ddinitdd f fd) (T : Txt K mg C) (TS : TxtS K mg CS) (c : C8.InsC K C)
    (GI : FnOk P w K mg base CX0 1 fI fdI ["value"] spIsInt) (bI : Binds K fdI ["value"] []) (mI : mg "is_integer" = some (.ref fI)) (kI : PySem.W.keepIn K (.ref fI) = true)
    (GS : FnOk P w K mg base CX0 2 fS fdS ["value", "fewest"] spChS) (bS : Binds K fdS ["value", "fewest"] []) (mS : mg "check_starts" = some (.ref fS)) (kS : PySem.W.keepIn K (.ref fS) = true)
    (GO : FnOk P w K mg base CX0 4 fO fdO ["value"] spChO) (bO : Binds K fdO ["value"] []) (mO : mg "_check_outages" = some (.ref fO)) (kO : PySem.W.keepIn K (.ref fO) = true) :
    FnOk P w K mg base CX0 5 f fd ["self", "rule", "starts", "outages", "length"] (spSInit C CS) := by
  refine F.ok scSInit (fun vs H Q E h => ?_) (fun cdv A outer s H vs Q E hr h => ?_)
  · obtain ⟨a, p, dx, r, g, t, o, s, w, gs, tl, bs, rs, ws, n, rfl, _⟩ := h
    rfl
  · obtain ⟨a, p, dx, r, g, t, o, sl, wl, gs, tl, bs, rs, ws, n, rfl, hp, R, hs, hw, tp, ok, ⟨ua, hua⟩, np, nr, ng, nt, no, k⟩ := h
    have hr1 := hr.mono (show 1 ≤ 4 by decide)
    have hr2 := hr.mono (show 2 ≤ 4 by decide)
    refine ⟨_, (pss_cons (ps_if (pt_not (pt_val (pe_callB (C8.call_isC c) (by rfl) T.isi (by decide +kernel) (pa_cons (pv 1) (pa_cons (pe_glob (v := .ref C) rfl T.mgC rfl) pa_nil))))) (pss_one ps_never) pss_nil) (pss_cons (ps_expr (pe_call GS hr2 rfl mS kS bS .nil pass0 (pa_cons (pv 2) (pa_cons pe_int pa_nil)))) (Evl.pss_cut (ps_if (pt_cmpR op_notN (pv 3) pe_non (nomark _)) (pss_one (ps_expr (pe_call GO hr rfl mO kO bO .nil pass0 (pa_cons (pv 3) pa_nil)))) pss_nil) (pss_cons (ps_if (PW.pt (pw_or (pt_not (pt_val (pe_call GI hr1 rfl mI kI bI .nil pass0 (pa_cons (pv 4) pa_nil)))) (pw_or1 (pt_cmpR op_lt (pv 4) pe_int (nomark _))))) (pss_one ps_never) pss_nil) (pss_cons (ps_fld (pv 0) (pv 1) rfl) (pss_cons (ps_fld (pv 0) (pe_callTy call_list_of (by rfl) T.list (by decide +kernel) (pa_cons (pv 2) pa_nil)) rfl) (pss_cons (ps_fld (pv 0) (pe_lc (own := [("first", 5), ("after", 6)]) (g := gTup K 2 (gCons (gName 5) (gCons (gName 6) gNil))) (tt := tYes) rfl scSInit.nd (pi_list (pe_callTy call_list_of (by rfl) T.list (by decide +kernel) (pa_cons (pe_orT (pv 3) (pe_one (pe_lst pa_nil))) pa_nil))) (blkOk_by (own := [("first", 5), ("after", 6)]) (N := ["self", "rule", "starts", "outages", "length", "first", "after"]) (sc := defScope s_Scene_ddinitdd) (by decide +kernel))
        (fun _ _ _ _ _ => pg_tup rfl (pgs_cons (pg_name (i := 5) scSInit.nd rfl (Or.inl rfl)) (pgs_cons (pg_name (i := 6) scSInit.nd rfl (Or.inl rfl)) pgs_nil))) (fun _ _ _ _ _ => pts_nil) (fun _ _ _ _ _ => (pe_tup (pa_cons (pv 5) (pa_cons (pv 6) pa_nil))))) rfl) (pss_one (ps_fld (pv 0) (pv 4) rfl))))))))), ?_⟩
    obtain ⟨dxr, hobr⟩ := R.ob
    refine ⟨_, rfl, r, dxr, _, rfl, hobr, true, rfl, iteF ?_⟩
    refine ⟨_, rfl, sl, bs, 1, rfl, hs, ok.b1, ok.b40, fun H1 S1 => ?_⟩
    refine ⟨fun σ' H' => σ' = [some (.ref p), some (.ref r), some (.ref sl), some (.ref wl), some (.int n), none, none] ∧ Same H H', ?_, ?_⟩
    · refine ⟨_, rfl, rfl, _, rfl, iteTb (by rw [decide_eq_false (fun e => by cases e)]; rfl) ?_⟩
      exact ⟨_, rfl, a, wl, rs, ws, rfl, S1 _ _ hw, tp.kx (Kx.of S1), ok.wo, ok.w10, fun H2 S2 => ⟨rfl, S1.trans S2⟩⟩
    rintro _ H2 ⟨rfl, S2⟩
    refine ⟨_, rfl, n, rfl, true, rfl, iteF ⟨_, rfl, _, _, rfl, rfl, _, rfl, iteFb (decide_eq_false (by have := ok.n1; omega)) ?_⟩⟩
    -- _rule
    refine ⟨_, rfl, _, rfl, p, CS, dx, [], rfl, S2 _ _ hp, TS.cl, TS.nR, (by show 0 < 1000; decide), ?_⟩
    have npr : ∀ {b : Addr} {u : HO}, H b = some u → (∀ dx fs, u ≠ .ins CS dx fs) → b ≠ p := fun {b u} hb hu e => by subst e; rw [hp] at hb; exact hu _ _ (Option.some.inj hb).symm
    have nsp : sl ≠ p := npr hs (fun _ _ z => by cases z)
    have nwp : wl ≠ p := npr hw (fun _ _ z => by cases z)
    -- _starts
    refine ⟨_, rfl, sl, _, rfl, .inl (SqL.of (by rw [upd_ne nsp]; exact S2 _ _ hs)), fun s' hs' => ?_⟩
    have ns'p : s' ≠ p := fun e => by subst e; rw [upd_same] at hs'; cases hs'
    refine ⟨_, rfl, p, CS, dx, _, rfl, (by rw [upd_ne ns'p.symm]; exact upd_same), TS.cl, TS.nS, (by show 1 < 1000; decide), ?_⟩
    generalize hH3 : upd (upd (upd H2 p (.ins CS dx (putF "_rule" (.ref r) []))) s' (.lst (bs.map V.int))) p (.ins CS dx (putF "_starts" (.ref s') (putF "_rule" (.ref r) []))) = H3
    have hs'H : H2 s' = none := by rw [upd_ne ns'p] at hs'; exact hs'
    have e3p : H3 p = some (.ins CS dx (putF "_starts" (.ref s') (putF "_rule" (.ref r) []))) := by rw [← hH3]; exact upd_same
    have e3s : H3 s' = some (.lst (bs.map V.int)) := by rw [← hH3, upd_ne ns'p]; exact upd_same
    have S3 : ∀ b u, H2 b = some u → b ≠ p → H3 b = some u := fun b u e nb => by
      rw [← hH3, upd_ne nb, upd_ne (ne_of_none e hs'H), upd_ne nb]
      exact e
    -- _outages
    have hw3 := S3 _ _ (S2 _ _ hw) nwp
    have tp3 : Tups a H3 rs ws := (tp.kx (Kx.of S2)).imp fun b f e hb => S3 _ _ hb (fun e => by
      subst e
      have := (S2 _ _ hp).symm.trans hb
      cases this)
    have wo := ok.wo
    have ha2 : H2 a = some ua := S2 _ _ hua
    have ns'a : s' ≠ a := (ne_of_none ha2 hs'H).symm
    have ha3 : H3 a = some ua := S3 _ _ ha2 np.symm
    have nrp : r ≠ p := fun e => by
      subst e
      have h1 := hobr.symm.trans hp
      have h2 : flds g t o = [] := by injection (Option.some.inj h1)
      have h3 := flds_g g t o
      rw [h2] at h3
      cases h3
    cases hrs : rs.isEmpty with
    | false =>
      refine ⟨_, rfl, true, .inl ⟨rs, SqL.of hw3, by rw [hrs]; rfl⟩, iteT ?_⟩
      refine ⟨wl, _, rfl, .inl (SqL.of hw3), fun l hl => ?_⟩
      have S5 := same_new (o := .lst rs) hl
      have hl5 := upd_same (H := H3) (a := l) (o := .lst rs)
      generalize (upd H3 l (.lst rs)) = H5 at S5 hl5 ⊢
      have ha5 := S5 _ _ ha3
      have tp5 := tp3.kx (Kx.of S5)
      refine ⟨l, rfl, ⟨_, SqL.of hl5⟩, fun D hD => lc_list (a := l) (xs := rs) (fun i H' => Same H5 H' ∧ ∃ ds, H' D = some (.lst ds) ∧ ds.length ≤ i ∧ Tups a H' ds (ws.take i)) ⟨same_new hD, [], upd_same, Nat.le_refl _, .nil⟩ (fun i H' _ p => SqL.of (p.1 _ _ hl5)) (fun i x H' hx pv => ?_) (fun H6 pv => ?_)⟩
      · obtain ⟨S, ds, hds, hdl, tpd⟩ := pv
        obtain ⟨q, ff, ee, rfl, hwi, nq, hq⟩ := tp5.at hx
        have hi : i < rs.length := (List.getElem?_eq_some_iff.mp hx).1
        refine ⟨q, _, rfl, SqT.of (S _ _ hq), rfl, _, _, rfl, _, _, rfl, rfl, rfl, ?_⟩
        refine yes_t (iteT ?_)
        refine ⟨_, rfl, _, rfl, (by show 2 ≤ sizeLine; decide), fun z hz => ?_⟩
        have sz := same_new (o := .tup [V.int ff, .int ee]) hz
        have nza : z ≠ a := (ne_of_none (S _ _ ha5) hz).symm
        have nzD : D ≠ z := ne_of_none hds hz
        have := tp.len
        have := ok.w10
        refine ⟨ds, sz _ _ hds, small1000 (by omega), fun b u e => ?_, ds ++ [.ref z], upd_same, ?_, ?_⟩
        · rw [upd_ne (ne_of_none e hD)]
          exact sz _ _ (S b u e)
        · rw [List.length_append]
          show ds.length + 1 ≤ _
          omega
        · rw [List.take_add_one, hwi]
          refine Tups.snoc nza ?_ ((tpd.kx (Kx.of sz)).off (sz _ _ hds))
          rw [upd_ne nzD.symm]
          exact upd_same
      obtain ⟨S6, ds, hds, hdl, tpd⟩ := pv
      rw [tp.len, List.take_length] at tpd
      have S36 : Same H3 H6 := S5.trans S6
      refine ⟨_, rfl, p, CS, dx, _, rfl, S36 _ _ e3p, TS.cl, TS.nW, (by show 2 < 1000; decide), ?_⟩
      refine ⟨_, rfl, _, rfl, p, CS, dx, _, rfl, upd_same, TS.cl, TS.nN, (by show 3 < 1000; decide), ?_⟩
      have hH : ∀ b u, H6 b = some u → b ≠ p → (upd (upd H6 p (.ins CS dx (putF "_outages" (.ref D) (putF "_starts" (.ref s') (putF "_rule" (.ref r) []))))) p (.ins CS dx (putF "_length" (.int n) (putF "_outages" (.ref D) (putF "_starts" (.ref s') (putF "_rule" (.ref r) [])))))) b = some u := fun b u e nb => by
        rw [upd_ne nb, upd_ne nb]
        exact e
      have fr : ∀ b u, H b = some u → b ≠ p → _ := fun b u e nb => hH b u (S36 _ _ (S3 _ _ (S2 _ _ e) nb)) nb
      have nDp : D ≠ p := (ne_of_none (S5 _ _ e3p) hD).symm
      have nDa : D ≠ a := (ne_of_none ha5 hD).symm
      refine k s' D ds _ fr ⟨⟨dx, upd_same⟩, ⟨⟨dxr, fr _ _ hobr nrp⟩, fr _ _ R.hg (npr R.hg (fun _ _ z => by cases z)), fr _ _ R.ht (npr R.ht (fun _ _ z => by cases z)), fr _ _ R.ho (npr R.ho (fun _ _ z => by cases z)), R.okG, R.okT⟩, hH _ _ (S36 _ _ e3s) ns'p, hH _ _ hds nDp, ?_, ok, np, nr, ng, nt, no, ns'a, nDa⟩
      exact tpd.imp fun b f e hb => hH _ _ hb (fun z => by
        subst z
        have := (S36 _ _ e3p).symm.trans hb
        cases this)
    | true =>
      refine ⟨_, rfl, false, .inl ⟨rs, SqL.of hw3, by rw [hrs]; rfl⟩, iteF ?_⟩
      obtain rfl : rs = [] := List.isEmpty_iff.mp hrs
      refine ⟨(by show 0 ≤ sizeLine; decide), fun e0 he0 => ⟨e0, _, rfl, .inl (SqL.of upd_same), fun l hl => ?_⟩⟩
      have S5 := (same_new (o := .lst []) he0).trans (same_new (o := .lst []) hl)
      have hl5 := upd_same (H := upd H3 e0 (.lst [])) (a := l) (o := .lst [])
      generalize (upd (upd H3 e0 (.lst [])) l (.lst [])) = H5 at S5 hl5 ⊢
      have ha5 := S5 _ _ ha3
      have tp5 := tp3.kx (Kx.of S5)
      refine ⟨l, rfl, ⟨_, SqL.of hl5⟩, fun D hD => lc_list (a := l) (xs := ([] : List V)) (fun i H' => Same H5 H' ∧ ∃ ds, H' D = some (.lst ds) ∧ ds.length ≤ i ∧ Tups a H' ds (ws.take i)) ⟨same_new hD, [], upd_same, Nat.le_refl _, .nil⟩ (fun i H' _ p => SqL.of (p.1 _ _ hl5)) (fun i x H' hx pv => ?_) (fun H6 pv => ?_)⟩
      · obtain ⟨S, ds, hds, hdl, tpd⟩ := pv
        obtain ⟨q, ff, ee, rfl, hwi, nq, hq⟩ := tp5.at hx
        have hi : i < ([] : List V).length := (List.getElem?_eq_some_iff.mp hx).1
        refine ⟨q, _, rfl, SqT.of (S _ _ hq), rfl, _, _, rfl, _, _, rfl, rfl, rfl, ?_⟩
        refine yes_t (iteT ?_)
        refine ⟨_, rfl, _, rfl, (by show 2 ≤ sizeLine; decide), fun z hz => ?_⟩
        have sz := same_new (o := .tup [V.int ff, .int ee]) hz
        have nza : z ≠ a := (ne_of_none (S _ _ ha5) hz).symm
        have nzD : D ≠ z := ne_of_none hds hz
        have := tp.len
        have := ok.w10
        refine ⟨ds, sz _ _ hds, small1000 (by omega), fun b u e => ?_, ds ++ [.ref z], upd_same, ?_, ?_⟩
        · rw [upd_ne (ne_of_none e hD)]
          exact sz _ _ (S b u e)
        · rw [List.length_append]
          show ds.length + 1 ≤ _
          omega
        · rw [List.take_add_one, hwi]
          refine Tups.snoc nza ?_ ((tpd.kx (Kx.of sz)).off (sz _ _ hds))
          rw [upd_ne nzD.symm]
          exact upd_same
      obtain ⟨S6, ds, hds, hdl, tpd⟩ := pv
      rw [tp.len, List.take_length] at tpd
      have S36 : Same H3 H6 := S5.trans S6
      refine ⟨_, rfl, p, CS, dx, _, rfl, S36 _ _ e3p, TS.cl, TS.nW, (by show 2 < 1000; decide), ?_⟩
      refine ⟨_, rfl, _, rfl, p, CS, dx, _, rfl, upd_same, TS.cl, TS.nN, (by show 3 < 1000; decide), ?_⟩
      have hH : ∀ b u, H6 b = some u → b ≠ p → (upd (upd H6 p (.ins CS dx (putF "_outages" (.ref D) (putF "_starts" (.ref s') (putF "_rule" (.ref r) []))))) p (.ins CS dx (putF "_length" (.int n) (putF "_outages" (.ref D) (putF "_starts" (.ref s') (putF "_rule" (.ref r) [])))))) b = some u := fun b u e nb => by
        rw [upd_ne nb, upd_ne nb]
        exact e
      have fr : ∀ b u, H b = some u → b ≠ p → _ := fun b u e nb => hH b u (S36 _ _ (S3 _ _ (S2 _ _ e) nb)) nb
      have nDp : D ≠ p := (ne_of_none (S5 _ _ e3p) hD).symm
      have nDa : D ≠ a := (ne_of_none ha5 hD).symm
      refine k s' D ds _ fr ⟨⟨dx, upd_same⟩, ⟨⟨dxr, fr _ _ hobr nrp⟩, fr _ _ R.hg (npr R.hg (fun _ _ z => by cases z)), fr _ _ R.ht (npr R.ht (fun _ _ z => by cases z)), fr _ _ R.ho (npr R.ho (fun _ _ z => by cases z)), R.okG, R.okT⟩, hH _ _ (S36 _ _ e3s) ns'p, hH _ _ hds nDp, ?_, ok, np, nr, ng, nt, no, ns'a, nDa⟩
      exact tpd.imp fun b f e hb => hH _ _ hb (fun z => by
        subst z
        have := (S36 _ _ e3p).symm.trans hb
        cases this)
end
end RS
namespace RS
open PySem L2
/-! ### the mathematics of offsets and gaps -/
def geo (b : Int) : Nat → Int
  | 0 => 0
  | k + 1 => geo b k + b ^ k
theorem geo_eq (b : Int) : ∀ k, b ^ k - 1 = (b - 1) * geo b k
  | 0 => by simp [geo]
  | k + 1 => by
    rw [geo, Int.mul_add, ← geo_eq b k, Int.pow_succ, Int.sub_mul, Int.one_mul, Int.mul_comm b (b ^ k)]
    omega
theorem geo_div {b : Int} (h : 2 ≤ b) (x : Int) (k : Nat) : x * (b ^ k - 1) / (b - 1) = x * geo b k := by
  rw [geo_eq, ← Int.mul_assoc, Int.mul_comm x (b - 1), Int.mul_assoc]
  exact Int.mul_ediv_cancel_left _ (by omega)
theorem off_low {gs : List Int} {tl : Tl} {n : Nat} (h : n ≤ gs.length) : off gs tl n = pre gs n := if_pos h
theorem off_times {gs : List Int} {b : Int} (h2 : 2 ≤ b) {n : Nat} (h : gs.length ≤ n) : off gs (.times b) n = pre gs gs.length + lastG gs * b * geo b (n - gs.length) := by
  by_cases e : n = gs.length
  · subst e
    rw [off_low (Nat.le_refl _), Nat.sub_self]
    simp [geo]
  · have e1 : off gs (.times b) n = pre gs gs.length + lastG gs * b * (b ^ (n - gs.length) - 1) / (b - 1) := if_neg (by omega)
    rw [e1, geo_div h2]
theorem off_rep {gs : List Int} {m : Nat} (h1 : 1 ≤ m) (h2 : m ≤ gs.length) {n : Nat} (h : gs.length ≤ n) : off gs (.rep m) n = pre gs (gs.length - m + (n - gs.length) % m) + (((n - gs.length) / m : Nat) + 1) * per gs m := by
  by_cases e : n = gs.length
  · subst e
    rw [off_low (Nat.le_refl _), Nat.sub_self, Nat.zero_mod, Nat.zero_div]
    unfold per
    simp
    omega
  · exact if_neg (by omega)
theorem gap_low {gs : List Int} {tl : Tl} {n : Nat} (h : n < gs.length) : gapf gs tl n = gs.getD n 0 := if_pos h
theorem gap_times {gs : List Int} {b : Int} {n : Nat} (h : gs.length ≤ n) : gapf gs (.times b) n = lastG gs * b ^ (n - gs.length + 1) := if_neg (by omega)
theorem gap_rep {gs : List Int} {m n : Nat} (h : gs.length ≤ n) : gapf gs (.rep m) n = gs.getD (gs.length - m + (n - gs.length) % m) 0 := if_neg (by omega)
theorem pre_succD {gs : List Int} {k : Nat} (h : k < gs.length) : pre gs (k + 1) = pre gs k + gs.getD k 0 := pre_succ gs (getD_get h)
/-- the next attempt lies one gap later -/
theorem off_succ {gs : List Int} {tl : Tl} (ok : TlOk gs.length tl) {n : Nat} (hf : tl = .fin → n < gs.length) : off gs tl (n + 1) = off gs tl n + gapf gs tl n := by
  by_cases h : n < gs.length
  · rw [off_low (by omega), off_low (by omega), gap_low h, pre_succD h]
  · cases tl with
    | fin => exact absurd (hf rfl) h
    | times b =>
      have h2 := ok.2.1
      rw [off_times h2 (by omega), off_times h2 (by omega), gap_times (by omega), show n + 1 - gs.length = (n - gs.length) + 1 by omega, geo, Int.mul_add, Int.pow_succ, Int.mul_assoc, Int.mul_assoc, Int.mul_comm (b ^ (n - gs.length)) b]
      omega
    | rep m =>
      have h1 : 1 ≤ m := ok.1
      have h2 : m ≤ gs.length := ok.2
      rw [off_rep h1 h2 (by omega), off_rep h1 h2 (by omega), gap_rep (by omega)]
      generalize hd : n - gs.length = d
      rw [show n + 1 - gs.length = d + 1 by omega]
      have hr : d % m < m := Nat.mod_lt _ (by omega)
      have e0 : m * (d / m) + d % m = d := Nat.div_add_mod d m
      by_cases hl : d % m + 1 < m
      · have e1 : (d + 1) % m = d % m + 1 := by
          rw [← e0, show m * (d / m) + d % m + 1 = (d % m + 1) + m * (d / m) by omega, Nat.add_mul_mod_self_left, Nat.mod_eq_of_lt hl, Nat.add_comm (m * (d / m)), Nat.add_mul_mod_self_left, Nat.mod_mod]
        have e2 : (d + 1) / m = d / m := by
          have h3 := Nat.div_add_mod (d + 1) m
          rw [e1] at h3
          have h4 : m * ((d + 1) / m) = m * (d / m) := by omega
          exact Nat.eq_of_mul_eq_mul_left (by omega) h4
        rw [e1, e2, show gs.length - m + (d % m + 1) = (gs.length - m + d % m) + 1 by omega, pre_succD (by omega)]
        omega
      · have e1 : d + 1 = m * (d / m + 1) := by
          rw [Nat.mul_add, Nat.mul_one]
          omega
        rw [e1, Nat.mul_mod_right, Nat.mul_div_cancel_left _ (by omega), show d % m = m - 1 by omega]
        have e3 : pre gs gs.length = pre gs (gs.length - m + (m - 1)) + gs.getD (gs.length - m + (m - 1)) 0 := by
          rw [← pre_succD (by omega), show gs.length - m + (m - 1) + 1 = gs.length by omega]
        have e4 : per gs m = pre gs gs.length - pre gs (gs.length - m) := rfl
        have e5 : ((d / m + 1 : Nat) + 1 : Int) * per gs m = ((d / m : Nat) + 1 : Int) * per gs m + per gs m := by
          rw [Int.natCast_add, Int.add_mul, Int.natCast_one, Int.one_mul]
        rw [e5, Nat.add_zero]
        omega
theorem gap_grow {gs : List Int} {b : Int} (h0 : 0 < gs.length) {n : Nat} (h : gs.length ≤ n) : gapf gs (.times b) n = gapf gs (.times b) (n - 1) * b := by
  rw [gap_times h]
  by_cases e : n = gs.length
  · subst e
    rw [gap_low (by omega), Nat.sub_self]
    show lastG gs * b ^ 1 = lastG gs * b
    rw [Int.pow_succ, Int.pow_zero, Int.one_mul]
  · rw [gap_times (by omega), show n - gs.length + 1 = (n - 1 - gs.length + 1) + 1 by omega, Int.pow_succ, Int.mul_assoc]
theorem off_later {gs : List Int} {m : Nat} (h1 : 1 ≤ m) (h2 : m ≤ gs.length) (a t : Nat) : off gs (.rep m) (a + gs.length + m * t) = off gs (.rep m) (a + gs.length) + (t : Int) * per gs m := by
  rw [off_rep h1 h2 (by omega), off_rep h1 h2 (by omega), show a + gs.length + m * t - gs.length = a + m * t by omega, show a + gs.length - gs.length = a by omega, Nat.add_mul_mod_self_left, Nat.add_mul_div_left _ _ (by omega), Int.natCast_add]
  rw [Int.add_mul, Int.add_mul, Int.add_mul]
  omega
theorem sum_take_drop (gs : List Int) (k : Nat) : (gs.take k).sum + (gs.drop k).sum = gs.sum := by
  rw [← List.sum_append, List.take_append_drop]
theorem per_sum {gs : List Int} (m : Nat) : (gs.drop (gs.length - m)).sum = per gs m := by
  have h := sum_take_drop gs (gs.length - m)
  have e : pre gs gs.length = gs.sum := by unfold pre; rw [List.take_length]
  unfold per
  rw [e]
  unfold pre
  omega
end RS
namespace RS
open PySem L2
/-! ### first attempts from a distance on: the mathematics -/
theorem gap_pos {gs : List Int} {tl : Tl} (okG : GapsOk gs) (okT : TlOk gs.length tl) {n : Nat} (hf : tl = .fin → n < gs.length) : 1 ≤ gapf gs tl n := by
  by_cases h : n < gs.length
  · rw [gap_low h]
    exact (gap_bd okG h).1
  · cases tl with
    | fin => exact absurd (hf rfl) h
    | times b =>
      rw [gap_times (by omega)]
      have h1 : 1 ≤ lastG gs := (gap_bd okG (k := gs.length - 1) (by have := okT.1; omega)).1
      have h2 : 0 < b ^ (n - gs.length + 1) := Int.pow_pos (by have := okT.2.1; omega)
      have h3 := Int.mul_le_mul h1 (show 1 ≤ b ^ (n - gs.length + 1) by omega) (by decide) (by omega)
      omega
    | rep m =>
      rw [gap_rep (by omega)]
      have h1 : (n - gs.length) % m < m := Nat.mod_lt _ (by have := okT.1; omega)
      exact (gap_bd okG (by have := okT.2; omega)).1
theorem off_mono {gs : List Int} {tl : Tl} (okG : GapsOk gs) (okT : TlOk gs.length tl) (i : Nat) : ∀ k, (tl = .fin → i + k ≤ gs.length) → off gs tl i + (k : Int) ≤ off gs tl (i + k)
  | 0, _ => by simp
  | k + 1, h => by
    have ih := off_mono okG okT i k fun e => by have := h e; omega
    have hf : tl = .fin → i + k < gs.length := fun e => by have := h e; omega
    have hg := gap_pos okG okT hf
    have hs := off_succ okT hf
    rw [show i + (k + 1) = i + k + 1 by omega, hs]
    omega
theorem off_lt {gs : List Int} {tl : Tl} (okG : GapsOk gs) (okT : TlOk gs.length tl) {i j : Nat} (h : i < j) (hf : tl = .fin → j ≤ gs.length) : off gs tl i < off gs tl j := by
  have := off_mono okG okT i (j - i) fun e => by have := hf e; omega
  rw [show i + (j - i) = j by omega] at this
  omega
theorem AttOk.fin {gs : List Int} {tl : Tl} {n : Nat} (h : AttOk gs tl n) : tl = .fin → n ≤ gs.length := fun e => by subst e; exact h
/-- what first_from hands back -/
def FF (gs : List Int) (tl : Tl) (d : Int) (r : V) : Prop := (r = .non ∧ tl = .fin ∧ pre gs gs.length < d) ∨ ∃ n : Nat, r = .int (n : Int) ∧ AttOk gs tl n ∧ d ≤ off gs tl n ∧ (0 < n → off gs tl (n - 1) < d)
theorem FF_one {gs : List Int} {tl : Tl} (okG : GapsOk gs) (okT : TlOk gs.length tl) {d : Int} {r s : V} (h1 : FF gs tl d r) (h2 : FF gs tl d s) : r = s := by
  have key : ∀ {n m : Nat}, AttOk gs tl n → AttOk gs tl m → d ≤ off gs tl n → (0 < m → off gs tl (m - 1) < d) → ¬ n < m := by
    intro n m hn hm h3 h4 h5
    have h6 := h4 (by omega)
    have h7 : off gs tl n ≤ off gs tl (m - 1) := by
      by_cases e : n = m - 1
      · rw [← e]
        exact Int.le_refl _
      · exact Int.le_of_lt (off_lt okG okT (by omega) fun e => by have := hm.fin e; omega)
    omega
  have low : ∀ {n : Nat}, tl = .fin → AttOk gs tl n → d ≤ off gs tl n → ¬ pre gs gs.length < d := by
    intro n e hn h3 h4
    subst e
    have hn : n ≤ gs.length := hn
    have h5 := off_mono okG okT n (gs.length - n) fun _ => by omega
    rw [show n + (gs.length - n) = gs.length by omega, off_low (Nat.le_refl gs.length)] at h5
    omega
  rcases h1 with ⟨rfl, e1, l1⟩ | ⟨n, rfl, a1, b1, c1⟩ <;> rcases h2 with ⟨rfl, e2, l2⟩ | ⟨m, rfl, a2, b2, c2⟩
  · rfl
  · exact absurd l1 (low e1 a2 b2)
  · exact absurd l2 (low e2 a1 b1)
  · have x := key a1 a2 b1 c2
    have y := key a2 a1 b2 c1
    rw [show n = m by omega]
/-- what attempt_at hands back -/
def AA (gs : List Int) (tl : Tl) (d : Int) (r : V) : Prop := ∃ a, FF gs tl d a ∧ ((∃ n : Nat, a = .int (n : Int) ∧ off gs tl n = d ∧ r = a) ∨ ((∀ n : Nat, a = .int (n : Int) → off gs tl n ≠ d) ∧ r = .non))
theorem off_turn {gs : List Int} {m : Nat} (h1 : 1 ≤ m) (h2 : m ≤ gs.length) {j : Nat} (hj0 : gs.length - m ≤ j) (hj1 : j ≤ gs.length) (q : Nat) : off gs (.rep m) (j + m * q) = pre gs j + (q : Int) * per gs m := by
  cases q with
  | zero =>
    rw [Nat.mul_zero, Nat.add_zero, off_low hj1]
    simp
  | succ q =>
    have e0 : m * (q + 1) = m * q + m := Nat.mul_succ m q
    rw [off_rep h1 h2 (by omega)]
    by_cases hj : j = gs.length
    · subst hj
      rw [show gs.length + m * (q + 1) - gs.length = m * (q + 1) by omega, Nat.mul_mod_right, Nat.mul_div_cancel_left _ (by omega), Nat.add_zero, Int.add_mul, Int.one_mul]
      have e1 : per gs m = pre gs gs.length - pre gs (gs.length - m) := rfl
      omega
    · rw [show j + m * (q + 1) - gs.length = (j - (gs.length - m)) + m * q by omega, Nat.add_mul_mod_self_left, Nat.add_mul_div_left _ _ (by omega), Nat.mod_eq_of_lt (by omega), Nat.div_eq_of_lt (by omega), Nat.zero_add, show gs.length - m + (j - (gs.length - m)) = j by omega]
      rw [Int.natCast_add, Int.natCast_one]
end RS
namespace RS
open PySem L2
section
variable {P : Program} {w : World} {K : PySem.W.Frag} {mg : Str → Option Value} {base : Heap}
/-! ### _first_at_least -/
def spFal : Sp := fun vs H Q _ => ∃ (o : Addr) (xs : List Int) (d : Int) (j : Nat), vs = [.ref o, .int d] ∧ H o = some (.lst (xs.map V.int)) ∧ j < xs.length ∧ d ≤ xs.getD j 0 ∧ ∀ n : Nat, n ≤ j → d ≤ xs.getD n 0 → (∀ i, i < n → xs.getD i 0 < d) → Q (.int (n : Int)) H
theorem scFal : FnScope ["offsets", "distance", "position"] ["offsets", "distance"] (defScope s_first_at_least) := ⟨rfl, rfl, rfl, by decide +kernel, rfl, by decide +kernel, by decide +kernel⟩
theorem ok_fal {f : Addr} {fd : FuncData} (F : Fun K "_first_at_least" "_first_at_least" s_first_at_least f fd) : FnOk P w K mg base CX0 1 f fd ["offsets", "distance"] spFal := by
  refine F.ok scFal (fun vs H Q E h => ?_) (fun cdv A outer s H vs Q E hr h => ?_)
  · obtain ⟨o, xs, d, j, rfl, _⟩ := h
    rfl
  · obtain ⟨o, xs, d, j, rfl, ho, hj, hd, k⟩ := h
    refine ⟨_, (pss_cons (ps_set (i := 2) scFal.nd rfl (Or.inl rfl) pe_int) (pss_cons (ps_while PassesOwn.never (pt_cmpR op_lt (pe_ix ix_list (pv 0) (pv 2) (fun _ _ => rfl)) (pv 1) (nomark _)) (pss_one (ps_set (i := 2) scFal.nd rfl (Or.inl rfl) (pe_op op_add (pv 2) pe_int)))) (pss_one (ps_ret (pv 2))))), ?_⟩
    refine ⟨fun m σ H' => H' = H ∧ ∃ i : Nat, i ≤ j ∧ m = j - i ∧ σ = [some (.ref o), some (.int d), some (.int (i : Int))] ∧ ∀ k, k < i → xs.getD k 0 < d, ⟨j, rfl, 0, Nat.zero_le _, rfl, rfl, fun k hk => absurd hk (Nat.not_lt_zero _)⟩, ?_⟩
    rintro m σ H' ⟨rfl, i, hi, rfl, rfl, hall⟩
    refine ⟨_, rfl, _, rfl, o, _, _, _, rfl, rfl, SqL.of ho, at_map (getD_get (by omega)), _, rfl, _, _, rfl, rfl, _, rfl, ?_⟩
    by_cases hlt : xs.getD i 0 < d
    · refine iteTb (decide_eq_true hlt) ?_
      have hne : i ≠ j := fun e => by subst e; omega
      refine ⟨fun σ' H2 => H2 = H' ∧ σ' = [some (.ref o), some (.int d), some (.int ((i : Int) + 1))], ?_, ?_⟩
      · rintro σ' H2 ⟨rfl, rfl⟩
        refine ⟨j - (i + 1), by omega, rfl, i + 1, by omega, rfl, rfl, fun k hk => ?_⟩
        by_cases e : k = i
        · subst e
          exact hlt
        · exact hall k (by omega)
      · exact ⟨_, rfl, _, _, rfl, rfl, rfl, rfl⟩
    · refine iteFb (decide_eq_false hlt) ?_
      exact ⟨_, rfl, k i hi (by omega) hall⟩
/-! ### _surely_short -/
theorem geo_short {b : Int} (h : 2 ≤ b) : ∀ k, b * geo b k < 2 * b ^ k
  | 0 => by simp [geo]
  | k + 1 => by
    have ih := geo_short h k
    have p : 0 < b ^ k := Int.pow_pos (by omega)
    have e : 2 * b ^ k ≤ b * b ^ k := Int.mul_le_mul_of_nonneg_right h (Int.le_of_lt p)
    rw [geo, Int.mul_add, Int.pow_succ, Int.mul_comm (b ^ k) b]
    omega
theorem bits_nat {n : Nat} (h : 0 < n) : ∃ j, Builtin.Int.intBits (n : Int) = j + 1 ∧ 2 ^ j ≤ n ∧ n < 2 ^ (j + 1) := by
  refine ⟨n.log2, ?_, Nat.log2_self_le (by omega), Nat.lt_log2_self⟩
  unfold Builtin.Int.intBits
  rw [if_neg (by simp; omega)]
  rfl
theorem short_ok {L b way : Int} (hL : 1 ≤ L) (hb : 2 ≤ b) (hw : 0 < way) {k : Nat} (h : (k : Int) ≤ (((Builtin.Int.intBits way : Nat) : Int) - ((Builtin.Int.intBits L : Nat) : Int) - 2) / ((Builtin.Int.intBits (b - 1) : Nat) : Int)) : 2 * L * b ^ k ≤ way := by
  obtain ⟨L, rfl⟩ := Int.eq_ofNat_of_zero_le (show 0 ≤ L by omega)
  obtain ⟨way, rfl⟩ := Int.eq_ofNat_of_zero_le (show 0 ≤ way by omega)
  obtain ⟨c, hc⟩ := Int.eq_ofNat_of_zero_le (show 0 ≤ b - 1 by omega)
  have eb : b = ((c + 1 : Nat) : Int) := by omega
  rw [hc] at h
  subst eb
  obtain ⟨w, ew, hw1, _⟩ := bits_nat (n := way) (by omega)
  obtain ⟨l, el, _, hl1⟩ := bits_nat (n := L) (by omega)
  obtain ⟨d, ed, _, hd1⟩ := bits_nat (n := c) (by omega)
  rw [ew, el, ed] at h
  have h2 : (k : Int) * ((d + 1 : Nat) : Int) ≤ ((w + 1 : Nat) : Int) - ((l + 1 : Nat) : Int) - 2 :=
    Int.le_trans (Int.mul_le_mul_of_nonneg_right h (by omega)) (Int.ediv_mul_le _ (by omega))
  rw [← Int.natCast_mul] at h2
  have h3 : k * (d + 1) + l + 2 ≤ w := by omega
  have p1 : (c + 1) ^ k ≤ (2 ^ (d + 1)) ^ k := Nat.pow_le_pow_left (by omega) k
  rw [← Nat.pow_mul, Nat.mul_comm] at p1
  have p2 : L * (c + 1) ^ k ≤ 2 ^ (l + 1) * 2 ^ (k * (d + 1)) := Nat.mul_le_mul (by omega) p1
  rw [← Nat.pow_add] at p2
  have p3 : 2 ^ (l + 1 + k * (d + 1)) * 2 ≤ 2 ^ w := by
    rw [← Nat.pow_succ]
    exact Nat.pow_le_pow_right (by decide) (by omega)
  have p4 : 2 * (L * (c + 1) ^ k) ≤ way := by omega
  rw [Int.mul_assoc]
  exact_mod_cast p4
def spSs (C : Addr) : Sp := fun vs H Q _ => ∃ (p g t o : Addr) (gs : List Int) (b d : Int), vs = [.ref p, .int d] ∧ RuleAt C H p g t o gs (.times b) ∧ 0 < d ∧ ∀ k : Nat, (0 < k → 2 * lastG gs * b ^ k ≤ d) → Q (.int (k : Int)) H
theorem scSs : FnScope ["self", "way", "bits"] ["self", "way"] (defScope s_Rule_surely_short) := ⟨rfl, rfl, rfl, by decide +kernel, rfl, by decide +kernel, by decide +kernel⟩
theorem ok_ss {f C : Addr} {fd : FuncData} (F : Fun K "_surely_short" "Rule._surely_short" s_Rule_surely_short f fd) (T : Txt K mg C) : FnOk P w K mg base CX0 1 f fd ["self", "way"] (spSs C) := by
  refine F.ok scSs (fun vs H Q E h => ?_) (fun cdv A outer s H vs Q E hr h => ?_)
  · obtain ⟨p, g, t, o, gs, b, d, rfl, _⟩ := h
    rfl
  · obtain ⟨p, g, t, o, gs, b, d, rfl, R, hd0, k⟩ := h
    have hl := R.okT.1
    have hb0 := R.okT.2.1
    have hb1 := R.okT.2.2
    have hg := gap_bd R.okG (k := gs.length - 1) (by omega)
    have hg : 1 ≤ lastG gs ∧ lastG gs ≤ 1000000000000 := hg
    refine ⟨_, (pss_cons (ps_set (i := 2) scSs.nd rfl (Or.inl rfl) (pe_op op_sub (pe_op op_sub (pe_bits (pv 1)) (pe_bits (pe_ix ix_list (pe_fld (pv 0) rfl) (pe_un un_neg pe_int) (fun _ _ => rfl)))) pe_int)) (pss_one (ps_ret (pe_callB (call_max2 rfl) (by rfl) T.max (by decide +kernel) (pa_cons pe_int (pa_cons (pe_op op_fdiv (pv 2) (pe_bits (pe_op op_sub (pe_ix ix_tup (pe_fld (pv 0) rfl) pe_int (fun _ _ => rfl)) pe_int))) pa_nil)))))), ?_⟩
    refine ⟨_, rfl, d, rfl, ?_⟩
    refine rdLast T R rfl hl ⟨_, rfl, _, _, rfl, rfl, _, _, rfl, rfl, ?_⟩
    refine ⟨_, rfl, ?_⟩
    refine rdB T R rfl ⟨_, _, rfl, rfl, _, rfl, ?_⟩
    obtain ⟨c, hc⟩ := Int.eq_ofNat_of_zero_le (show 0 ≤ b - 1 by omega)
    obtain ⟨j, ej, hj1, _⟩ := bits_nat (n := c) (by omega)
    have hj : 2 ^ j < 2 ^ 10 := by omega
    have hj2 := (Nat.pow_lt_pow_iff_right (a := 2) (by decide)).mp hj
    have hcb : ((Builtin.Int.intBits (b - 1) : Nat) : Int) = ((j + 1 : Nat) : Int) := by rw [hc, ej]
    refine ⟨_, _, rfl, rfl, ⟨by omega, by omega⟩, _, _, rfl, ?_⟩
    split
    · rename_i hp
      obtain ⟨n, hn⟩ := Int.eq_ofNat_of_zero_le (Int.le_of_lt hp)
      rw [hn]
      exact k n fun _ => short_ok hg.1 hb0 hd0 (by rw [← hn]; exact Int.le_refl _)
    · exact k 0 fun h => absurd h (Nat.lt_irrefl _)
/-! ### _first_growing -/
def spFg (C : Addr) : Sp := fun vs H Q _ => ∃ (p g t o : Addr) (gs : List Int) (b d : Int), vs = [.ref p, .int d] ∧ RuleAt C H p g t o gs (.times b) ∧ pre gs gs.length < d ∧ d ≤ off gs (.times b) 1000 ∧ ∀ r H', Same H H' → FF gs (.times b) d r → Q r H'
theorem scFg : FnScope ["self", "distance", "attempt", "offset", "gap"] ["self", "distance"] (defScope s_Rule_first_growing) := ⟨rfl, rfl, rfl, by decide +kernel, rfl, by decide +kernel, by decide +kernel⟩
theorem rdTb {tr : TE} {C p g t o : Addr} {gs : List Int} {H : Hp} {σ : L2.St} {i : Nat} {b : Int} {sp : Sp} {dvs : List V} {E : XK} {Q : VK} (T : Txt K mg C) (R : RuleAt C H p g t o gs (.times b)) (hi : σ[i]? = some (some (.ref p))) (q : tr σ H fun y H2 => sp ([.int b, y] ++ dvs) H2 Q E) :
    tCall sp dvs E (tCons (tOp (rIxT K) (tFld K (tVar i) "_tail") (tC (.int 1))) (tCons tr tNil)) σ H Q := by
  dsimp only [tCall, tCons]
  exact rdB T R hi q
theorem ok_fg {f C fS fO fW : Addr} {fd fdS fdO fdW : FuncData} (F : Fun K "_first_growing" "Rule._first_growing" s_Rule_first_growing f fd) (T : Txt K mg C) (FS : Fun K "_surely_short" "Rule._surely_short" s_Rule_surely_short fS fdS) (bS : Binds K fdS ["self", "way"] []) (mS : Meth K C "_surely_short" fS)
    (GO : FnOk P w K mg base CX0 3 fO fdO ["self", "attempt"] (spOff C)) (bO : Binds K fdO ["self", "attempt"] []) (mO : Meth K C "_offset_of" fO) (FW : Fun K "_power" "_power" s_power fW fdW) (bW : Binds K fdW ["base", "exponent"] []) (mW : mg "_power" = some (.ref fW)) : FnOk P w K mg base CX0 4 f fd ["self", "distance"] (spFg C) := by
  have GS : FnOk P w K mg base CX0 1 fS fdS ["self", "way"] (spSs C) := ok_ss FS T
  have GW : FnOk P w K mg base CX0 1 fW fdW ["base", "exponent"] spPower := ok_power FW
  refine F.ok scFg (fun vs H Q E h => ?_) (fun cdv A outer s H vs Q E hr h => ?_)
  · obtain ⟨p, g, t, o, gs, b, d, rfl, _⟩ := h
    rfl
  · obtain ⟨p, g, t, o, gs, b, d, rfl, R, hd0, hd1, k⟩ := h
    have hr1 := hr.mono (show 1 ≤ 3 by decide)
    have hl := R.okT.1
    have hb0 := R.okT.2.1
    have hb1 := R.okT.2.2
    have hlen : gs.length ≤ 20 := R.okG.1
    refine ⟨_, (pss_cons (ps_set (i := 2) scFg.nd rfl (Or.inl rfl) (pe_op op_add (pe_callB call_len_seq (by rfl) T.len (by decide +kernel) (pa_cons (pe_fld (pv 0) rfl) pa_nil)) (pe_meth (pv 0) T.cl mS GS hr1 bS .nil pass0 (pa_cons (pe_op op_sub (pv 1) (pe_ix ix_list (pe_fld (pv 0) rfl) (pe_un un_neg pe_int) (fun _ _ => rfl))) pa_nil)))) (pss_cons (ps_set (i := 3) scFg.nd rfl (Or.inl rfl) (pe_meth (pv 0) T.cl mO GO hr bO .nil pass0 (pa_cons (pv 2) pa_nil))) (pss_cons (ps_set (i := 4) scFg.nd rfl (Or.inl rfl) (pe_op op_mulW (pe_ix ix_list (pe_fld (pv 0) rfl) (pe_un un_neg pe_int) (fun _ _ => rfl)) (pe_call GW hr1 rfl mW FW.kp bW .nil pass0 (pa_cons (pe_ix ix_tup (pe_fld (pv 0) rfl) pe_int (fun _ _ => rfl)) (pa_cons (pe_op op_sub (pv 2) (pe_callB call_len_seq (by rfl) T.len (by decide +kernel) (pa_cons (pe_fld (pv 0) rfl) pa_nil))) pa_nil))))) (pss_cons (ps_while PassesOwn.never (pt_cmpR op_lt (pv 3) (pv 1) (nomark _)) (pss_cons (ps_set (i := 4) scFg.nd rfl (Or.inl rfl) (pe_op op_mul (pv 4) (pe_ix ix_tup (pe_fld (pv 0) rfl) pe_int (fun _ _ => rfl)))) (pss_cons (ps_set (i := 3) scFg.nd rfl (Or.inl rfl) (pe_op op_add (pv 3) (pv 4))) (pss_one (ps_set (i := 2) scFg.nd rfl (Or.inl rfl) (pe_op op_add (pv 2) pe_int)))))) (pss_one (ps_ret (pv 2))))))), ?_⟩
    obtain ⟨dx, hob⟩ := R.ob
    refine rdG T R rfl ⟨g, _, rfl, .inl (SqL.of R.hg), ?_⟩
    rw [List.length_map]
    refine ⟨_, rfl, p, dx, _, rfl, hob, flds_no _ _ _ (by decide +kernel) (by decide +kernel) (by decide +kernel), _, rfl, ?_⟩
    refine rdLastO T R rfl ⟨_, _, rfl, rfl, p, g, t, o, gs, b, _, rfl, R, by omega, fun k0 hk0 => ?_⟩
    refine ⟨_, _, rfl, rfl, ?_⟩
    have ok0 : gs.length + k0 ≤ 1000 ∧ (0 < k0 → off gs (.times b) (gs.length + k0) < d) := by
      by_cases hz : 0 < k0
      · have h1 := hk0 hz
        have h2 := geo_short hb0 k0
        have hg := gap_bd R.okG (k := gs.length - 1) (by omega)
        have hg : 1 ≤ lastG gs ∧ lastG gs ≤ 1000000000000 := hg
        have h3 : lastG gs * (b * geo b k0) < lastG gs * (2 * b ^ k0) := Int.mul_lt_mul_of_pos_left h2 (by omega)
        have h4 : lastG gs * (2 * b ^ k0) = 2 * lastG gs * b ^ k0 := by rw [Int.mul_comm 2 (lastG gs), Int.mul_assoc]
        have h5 : off gs (.times b) (gs.length + k0) < d := by
          rw [off_times hb0 (Nat.le_add_right _ _), Nat.add_sub_cancel_left, Int.mul_assoc]
          omega
        refine ⟨?_, fun _ => h5⟩
        by_cases hn : gs.length + k0 ≤ 1000
        · exact hn
        · have := off_lt R.okG R.okT (i := 1000) (j := gs.length + k0) (by omega) (fun e => nomatch e)
          omega
      · exact ⟨by omega, fun h => absurd h hz⟩
    dsimp only [gName]
    rw [← Int.natCast_add]
    refine ⟨_, rfl, p, dx, _, rfl, hob, flds_no _ _ _ (by decide +kernel) (by decide +kernel) (by decide +kernel), _, rfl, p, g, t, o, gs, .times b, gs.length + k0, rfl, R, ok0.1, fun H1 S1 => ?_⟩
    have R1 := R.mono S1
    dsimp only [tSeq, tAsg, tOp]
    refine rdLast T R1 rfl hl ?_
    refine rdTb T R1 rfl ⟨_, rfl, ?_⟩
    refine rdG T R1 rfl ⟨g, _, rfl, .inl (SqL.of R1.hg), _, _, rfl, rfl, ?_⟩
    refine ⟨b, k0, ?_, by omega, by omega, by omega, _, _, rfl, rfl, ?_, ?_⟩
    · rw [List.length_map]
      show [V.int b, V.int (((gs.length + k0 : Nat) : Int) - (gs.length : Int))] = _
      rw [show ((gs.length + k0 : Nat) : Int) - (gs.length : Int) = (k0 : Int) by omega]
    · have hg := gap_bd R.okG (k := gs.length - 1) (by omega)
      have hg : 1 ≤ lastG gs ∧ lastG gs ≤ 1000000000000 := hg
      exact wide_mul (a := 64) (b := 20481) (by omega) (pow_small (by omega) (by omega) (by omega)) (by decide) (by decide) (by decide)
    generalize hn0' : gs.length + k0 = n0 at ok0 ⊢
    have hn0 : gs.length ≤ n0 := by omega
    have ek : k0 = n0 - gs.length := by omega
    subst ek
    refine ⟨fun m σ H' => H' = H1 ∧ ∃ n : Nat, gs.length ≤ n ∧ n ≤ 1000 ∧ m = 1000 - n ∧ σ = [some (.ref p), some (.int d), some (.int (n : Int)), some (.int (off gs (.times b) n)), some (.int (lastG gs * b ^ (n - gs.length)))] ∧ (n0 < n → off gs (.times b) (n - 1) < d) ∧ n0 ≤ n, ⟨1000 - n0, rfl, n0, hn0, ok0.1, rfl, rfl, fun h => absurd h (Nat.lt_irrefl _), Nat.le_refl _⟩, ?_⟩
    rintro m σ H' ⟨rfl, n, hn0, hn1, rfl, rfl, hall, hnn⟩
    refine ⟨_, rfl, _, rfl, _, _, rfl, rfl, _, rfl, ?_⟩
    by_cases hlt : off gs (.times b) n < d
    · refine iteTb (decide_eq_true hlt) ?_
      have hne : n ≠ 1000 := fun e => by subst e; omega
      have eg : lastG gs * b ^ (n - gs.length) * b = lastG gs * b ^ (n + 1 - gs.length) := by
        rw [show n + 1 - gs.length = (n - gs.length) + 1 by omega, Int.pow_succ, Int.mul_assoc]
      have eo : off gs (.times b) n + lastG gs * b ^ (n + 1 - gs.length) = off gs (.times b) (n + 1) := by
        rw [off_succ R.okT (n := n) (fun e => nomatch e), gap_times hn0, show n + 1 - gs.length = (n - gs.length) + 1 by omega]
      refine ⟨fun σ' H2 => H2 = H' ∧ σ' = [some (.ref p), some (.int d), some (.int ((n : Int) + 1)), some (.int (off gs (.times b) (n + 1))), some (.int (lastG gs * b ^ (n + 1 - gs.length)))], ?_, ?_⟩
      · rintro σ' H2 ⟨rfl, rfl⟩
        exact ⟨1000 - (n + 1), by omega, rfl, n + 1, by omega, by omega, rfl, rfl, fun _ => hlt, by omega⟩
      · refine ⟨_, rfl, ?_⟩
        refine rdB T R1 rfl ⟨_, _, rfl, rfl, .inr ⟨by omega, by omega⟩, ?_⟩
        refine ⟨_, rfl, _, rfl, _, _, rfl, rfl, _, rfl, _, _, rfl, rfl, rfl, ?_⟩
        show [some (V.ref p), some (V.int d), some (V.int ((n : Int) + 1)), some (V.int (off gs (.times b) n + lastG gs * b ^ (n - gs.length) * b)), some (V.int (lastG gs * b ^ (n - gs.length) * b))] = _
        rw [eg, eo]
    · refine iteFb (decide_eq_false hlt) ?_
      have hne : gs.length ≠ n := fun e => by
        subst e
        rw [off_low (Nat.le_refl gs.length)] at hlt
        exact hlt hd0
      refine ⟨_, rfl, k _ _ S1 (.inr ⟨n, rfl, hn1, by omega, fun _ => ?_⟩)⟩
      by_cases h2 : n0 < n
      · exact hall h2
      · have e3 : n = n0 := by omega
        subst e3
        exact absurd (ok0.2 (by omega)) hlt
theorem rdOc {C p g t o : Addr} {gs : List Int} {tl : Tl} {H : Hp} {σ : L2.St} {i : Nat} {sp : Sp} {dvs : List V} {E : XK} {tr : TA} {Q : VK} (T : Txt K mg C) (R : RuleAt C H p g t o gs tl) (hi : σ[i]? = some (some (.ref p))) (q : tr σ H fun xs H2 => sp ((.ref o :: xs) ++ dvs) H2 Q E) :
    tCall sp dvs E (tCons (tFld K (tVar i) "_offsets") tr) σ H Q := by
  dsimp only [tCall, tCons]
  exact rdO T R hi q
/-! ### _first_repeated -/
def spFrp (C : Addr) : Sp := fun vs H Q _ => ∃ (p g t o : Addr) (gs : List Int) (m : Nat) (d : Int), vs = [.ref p, .int d] ∧ RuleAt C H p g t o gs (.rep m) ∧ pre gs gs.length < d ∧ d < 2 ^ 200 ∧ ∀ r H', Same H H' → FF gs (.rep m) d r → Q r H'
theorem scFrp : FnScope ["self", "distance", "first", "periods", "rest", "within"] ["self", "distance"] (defScope s_Rule_first_repeated) := ⟨rfl, rfl, rfl, by decide +kernel, rfl, by decide +kernel, by decide +kernel⟩
theorem offsD {gs : List Int} {j : Nat} (h : j ≤ gs.length) : (offs gs).getD j 0 = pre gs j := by
  rw [List.getD_eq_getElem?_getD, offs_get gs h]
  rfl
theorem bits_lt {i : Int} (h0 : 0 ≤ i) (h1 : i < 2 ^ 200) : Builtin.Int.intBits i ≤ 200 := by
  unfold Builtin.Int.intBits
  split
  · omega
  · have := PySem.Flt.log2_lt_of (n := i.natAbs) (k := 200) (by decide) (by omega)
    omega
theorem ok_frp {f C fR fP fL : Addr} {fd fdR fdP fdL : FuncData} (F : Fun K "_first_repeated" "Rule._first_repeated" s_Rule_first_repeated f fd) (T : Txt K mg C) (FR : Fun K "first_repeating" "Rule.first_repeating" s_Rule_first_repeating fR fdR) (bR : Binds K fdR ["self"] []) (mR : Meth K C "first_repeating" fR)
    (FP : Fun K "period" "Rule.period" s_Rule_period fP fdP) (bP : Binds K fdP ["self"] []) (mP : Meth K C "period" fP) (FL : Fun K "_first_at_least" "_first_at_least" s_first_at_least fL fdL) (bL : Binds K fdL ["offsets", "distance"] []) (mL : mg "_first_at_least" = some (.ref fL)) :
    FnOk P w K mg base CX0 3 f fd ["self", "distance"] (spFrp C) := by
  have GR : FnOk P w K mg base CX0 1 fR fdR ["self"] (spFR C) := ok_fr FR T
  have GP : FnOk P w K mg base CX0 2 fP fdP ["self"] (spPer C) := ok_per FP T FR bR mR
  have GL : FnOk P w K mg base CX0 1 fL fdL ["offsets", "distance"] spFal := ok_fal FL
  refine F.ok scFrp (fun vs H Q E h => ?_) (fun cdv A outer s H vs Q E hr h => ?_)
  · obtain ⟨p, g, t, o, gs, m, d, rfl, _⟩ := h
    rfl
  · obtain ⟨p, g, t, o, gs, m, d, rfl, R, hd0, hd1, k⟩ := h
    have hr1 := hr.mono (show 1 ≤ 2 by decide)
    have hm0 : 1 ≤ m := R.okT.1
    have hm1 : m ≤ gs.length := R.okT.2
    have hp := per_bd R.okG hm0 hm1
    have hpre := pre_le R.okG (gs.length - m) (by omega)
    have eper : per gs m = pre gs gs.length - pre gs (gs.length - m) := rfl
    refine ⟨_, (pss_cons (ps_set (i := 2) scFrp.nd rfl (Or.inl rfl) (pe_meth0 (pv 0) T.cl mR GR hr1 bR .nil pass0)) (pss_cons (ps_asg (pe_callB call_divmodW (by rfl) T.divmod (by decide +kernel) (pa_cons (pe_op op_sub (pv 1) (pe_ix ix_list (pe_fld (pv 0) rfl) (pv 2) (fun _ _ => rfl))) (pa_cons (pe_meth0 (pv 0) T.cl mP GP hr bP .nil pass0) pa_nil))) (pg_tup rfl (pgs_cons (pg_name (i := 3) scFrp.nd rfl (Or.inl rfl)) (pgs_cons (pg_name (i := 4) scFrp.nd rfl (Or.inl rfl)) pgs_nil)))) (pss_cons (ps_set (i := 5) scFrp.nd rfl (Or.inl rfl) (pe_call GL hr1 rfl mL FL.kp bL .nil pass0 (pa_cons (pe_fld (pv 0) rfl) (pa_cons (pe_op op_add (pe_ix ix_list (pe_fld (pv 0) rfl) (pv 2) (fun _ _ => rfl)) (pv 4)) pa_nil)))) (pss_one (ps_ret (pe_op op_add (pv 5) (pe_op op_mul (pv 3) (pe_ix ix_tup (pe_fld (pv 0) rfl) pe_int (fun _ _ => rfl))))))))), ?_⟩
    obtain ⟨dx, hob⟩ := R.ob
    have nF : (flds g t o).lookup ("first_repeating" : Str) = none := flds_no _ _ _ (by decide +kernel) (by decide +kernel) (by decide +kernel)
    have nP : (flds g t o).lookup ("period" : Str) = none := flds_no _ _ _ (by decide +kernel) (by decide +kernel) (by decide +kernel)
    refine ⟨_, rfl, p, dx, _, rfl, hob, nF, p, g, t, o, gs, m, rfl, R, ?_⟩
    refine ⟨_, rfl, ?_⟩
    refine rdOx T R rfl ⟨_, rfl, o, _, _, _, rfl, rfl, SqL.of R.ho, at_map (offs_get gs (by omega)), _, _, rfl, rfl, ?_⟩
    refine ⟨_, rfl, p, dx, _, rfl, hob, nP, p, g, t, o, gs, .rep m, rfl, R, ?_⟩
    have hi0 : 0 ≤ d - pre gs (gs.length - m) := by omega
    refine ⟨_, _, rfl, divp_ok (by omega) (Nat.le_trans (bits_lt hi0 (by omega)) (by omega)), fun q hq => ?_⟩
    generalize hQ : (d - pre gs (gs.length - m)) / per gs m = qq
    generalize hRr : (d - pre gs (gs.length - m)) % per gs m = rr
    have eqr : per gs m * qq + rr = d - pre gs (gs.length - m) := by rw [← hQ, ← hRr]; exact Int.mul_ediv_add_emod _ _
    have hr0 : 0 ≤ rr := by rw [← hRr]; exact Int.emod_nonneg _ (by omega)
    have hr2 : rr < per gs m := by rw [← hRr]; exact Int.emod_lt_of_pos _ (by omega)
    have hq1 : 1 ≤ qq := by
      by_cases h : 1 ≤ qq
      · exact h
      · have : per gs m * qq ≤ per gs m * 0 := Int.mul_le_mul_of_nonneg_left (by omega) (by omega)
        omega
    obtain ⟨qn, rfl⟩ : ∃ qn : Nat, qq = (qn : Int) := ⟨qq.toNat, by omega⟩
    have S : Same H (upd H q (.tup [.int (qn : Int), .int rr])) := same_new hq
    have R2 := R.mono S
    refine ⟨q, _, rfl, SqT.of upd_same, rfl, _, _, rfl, _, _, rfl, rfl, ?_⟩
    obtain ⟨dx2, hob2⟩ := R2.ob
    refine rdOc T R2 rfl ?_
    refine rdOx T R2 rfl ⟨_, rfl, o, _, _, _, rfl, rfl, SqL.of R2.ho, at_map (offs_get gs (by omega)), _, rfl, _, _, rfl, rfl, ?_⟩
    refine ⟨o, offs gs, _, gs.length, rfl, R2.ho, by rw [offs_len]; omega, by rw [offsD (Nat.le_refl _)]; omega, fun j hj hdj hall => ?_⟩
    rw [offsD hj] at hdj
    have hj0 : gs.length - m ≤ j := by
      by_cases h : gs.length - m ≤ j
      · exact h
      · have := pre_mono R.okG j (gs.length - m - j) (by omega)
        rw [show j + (gs.length - m - j) = gs.length - m by omega] at this
        omega
    refine ⟨_, rfl, _, rfl, ?_⟩
    refine rdN T R2 rfl ⟨_, _, rfl, rfl, .inr ⟨by omega, by have := R.okG.1; omega⟩, _, _, rfl, rfl, ?_⟩
    have emul : (qn : Int) * per gs m = per gs m * (qn : Int) := Int.mul_comm _ _
    refine k _ _ S (.inr ⟨j + m * qn, ?_, True.intro, ?_, fun _ => ?_⟩)
    · rw [Int.natCast_add, Int.natCast_mul, Int.mul_comm (m : Int)]
    · rw [off_turn hm0 hm1 hj0 hj]
      omega
    · by_cases hj1 : j = gs.length - m
      · have e1 : qn = (qn - 1) + 1 := by omega
        have e2 : j + m * qn - 1 = (gs.length - 1) + m * (qn - 1) := by
          rw [e1, Nat.mul_succ]
          simp only [Nat.add_sub_cancel]
          omega
        have hall0 : d = pre gs (gs.length - m) + rr + per gs m * (qn : Int) := by omega
        rw [e2, off_turn hm0 hm1 (by omega) (by omega)]
        have hl := pre_mono R.okG (gs.length - 1) 1 (by omega)
        rw [show gs.length - 1 + 1 = gs.length by omega] at hl
        have e3 : ((qn - 1 : Nat) : Int) * per gs m + per gs m = per gs m * (qn : Int) := by
          rw [show ((qn - 1 : Nat) : Int) = (qn : Int) - 1 by omega, Int.sub_mul, Int.one_mul, emul]
          omega
        omega
      · have h1 := hall (j - 1) (by omega)
        rw [offsD (by omega)] at h1
        rw [show j + m * qn - 1 = (j - 1) + m * qn by omega, off_turn hm0 hm1 (by omega) (by omega)]
        omega
/-! ### first_from, attempt_at -/
/-- a distance that is answered -/
def HD (gs : List Int) (tl : Tl) (d : Int) : Prop := match tl with
  | .fin => True
  | .times b => d ≤ off gs (.times b) 1000
  | .rep _ => d < 2 ^ 200
def spFF (C : Addr) : Sp := fun vs H Q _ => ∃ (p g t o : Addr) (gs : List Int) (tl : Tl) (d : Int), vs = [.ref p, .int d] ∧ RuleAt C H p g t o gs tl ∧ HD gs tl d ∧ ∀ r H', Same H H' → FF gs tl d r → Q r H'
theorem scFF : FnScope ["self", "distance"] ["self", "distance"] (defScope s_Rule_first_from) := ⟨rfl, rfl, rfl, by decide +kernel, rfl, by decide +kernel, by decide +kernel⟩
theorem ok_ff {f C fi fL fG fW : Addr} {fd fdi fdL fdG fdW : FuncData} (F : Fun K "first_from" "Rule.first_from" s_Rule_first_from f fd) (T : Txt K mg C) (FI : Fun K "is_integer" "is_integer" s_is_integer fi fdi) (bI : Binds K fdi ["value"] []) (mI : mg "is_integer" = some (.ref fi))
    (FL : Fun K "_first_at_least" "_first_at_least" s_first_at_least fL fdL) (bL : Binds K fdL ["offsets", "distance"] []) (mL : mg "_first_at_least" = some (.ref fL))
    (GG : FnOk P w K mg base CX0 4 fG fdG ["self", "distance"] (spFg C)) (bG : Binds K fdG ["self", "distance"] []) (mG : Meth K C "_first_growing" fG)
    (GW : FnOk P w K mg base CX0 3 fW fdW ["self", "distance"] (spFrp C)) (bW : Binds K fdW ["self", "distance"] []) (mW : Meth K C "_first_repeated" fW) : FnOk P w K mg base CX0 5 f fd ["self", "distance"] (spFF C) := by
  have GI : FnOk P w K mg base CX0 1 fi fdi ["value"] spIsInt := ok_isInt FI T
  have GL : FnOk P w K mg base CX0 1 fL fdL ["offsets", "distance"] spFal := ok_fal FL
  refine F.ok scFF (fun vs H Q E h => ?_) (fun cdv A outer s H vs Q E hr h => ?_)
  · obtain ⟨p, g, t, o, gs, tl, d, rfl, _⟩ := h
    rfl
  · obtain ⟨p, g, t, o, gs, tl, d, rfl, R, hd, k⟩ := h
    have hr1 := hr.mono (show 1 ≤ 4 by decide)
    refine ⟨_, (pss_cons (ps_if (pt_not (pt_val (pe_call GI hr1 rfl mI FI.kp bI .nil pass0 (pa_cons (pv 1) pa_nil)))) (pss_one ps_never) pss_nil) (pss_cons (ps_if (pt_cmpR op_le (pv 1) (pe_ix ix_list (pe_fld (pv 0) rfl) (pe_un un_neg pe_int) (fun _ _ => rfl)) (nomark _)) (pss_one (ps_ret (pe_call GL hr1 rfl mL FL.kp bL .nil pass0 (pa_cons (pe_fld (pv 0) rfl) (pa_cons (pv 1) pa_nil))))) pss_nil) (pss_cons (ps_if (pt_cmpR op_eq (pe_ix ix_tup (pe_fld (pv 0) rfl) pe_int (fun _ _ => rfl)) pe_str (nomark _)) (pss_one (ps_ret pe_non)) pss_nil) (pss_cons (ps_if (pt_cmpR op_eq (pe_ix ix_tup (pe_fld (pv 0) rfl) pe_int (fun _ _ => rfl)) pe_str (nomark _)) (pss_one (ps_ret (pe_meth (pv 0) T.cl mG GG hr bG .nil pass0 (pa_cons (pv 1) pa_nil)))) pss_nil) (pss_one (ps_ret (pe_meth (pv 0) T.cl mW GW (hr.mono (by decide)) bW .nil pass0 (pa_cons (pv 1) pa_nil)))))))), ?_⟩
    obtain ⟨dx, hob⟩ := R.ob
    refine ⟨_, rfl, d, rfl, true, rfl, iteF ?_⟩
    refine ⟨_, rfl, ?_⟩
    refine rdLastO T R rfl ⟨_, _, rfl, rfl, _, rfl, ?_⟩
    by_cases hle : d ≤ pre gs gs.length
    · refine iteTb (decide_eq_true hle) ?_
      refine rdOc T R rfl ⟨_, rfl, o, offs gs, d, gs.length, rfl, R.ho, by rw [offs_len]; omega, by rw [offsD (Nat.le_refl _)]; exact hle, fun n hn hdn hall => ?_⟩
      rw [offsD hn] at hdn
      refine k _ H (Same.refl H) (.inr ⟨n, rfl, AttOk.low R.okG hn, by rw [off_low hn]; exact hdn, fun h0 => ?_⟩)
      have := hall (n - 1) (by omega)
      rw [offsD (by omega)] at this
      rw [off_low (by omega)]
      exact this
    · refine iteFb (decide_eq_false hle) ?_
      refine rdIs T R rfl ?_
      cases tl with
      | fin =>
        refine iteTb wEE ?_
        exact k _ H (Same.refl H) (.inl ⟨rfl, rfl, by omega⟩)
      | times b =>
        refine iteFb wTE ?_
        refine rdIs T R rfl ?_
        refine iteTb wTT ?_
        exact ⟨_, rfl, p, dx, _, rfl, hob, flds_no _ _ _ (by decide +kernel) (by decide +kernel) (by decide +kernel), _, rfl, p, g, t, o, gs, b, d, rfl, R, by omega, hd, k⟩
      | rep m =>
        refine iteFb wRE ?_
        refine rdIs T R rfl ?_
        refine iteFb wRT ?_
        exact ⟨_, rfl, p, dx, _, rfl, hob, flds_no _ _ _ (by decide +kernel) (by decide +kernel) (by decide +kernel), _, rfl, p, g, t, o, gs, m, d, rfl, R, by omega, hd, k⟩
def spAA (C : Addr) : Sp := fun vs H Q _ => ∃ (p g t o : Addr) (gs : List Int) (tl : Tl) (d : Int), vs = [.ref p, .int d] ∧ RuleAt C H p g t o gs tl ∧ HD gs tl d ∧ ∀ r H', Same H H' → AA gs tl d r → Q r H'
theorem scAA : FnScope ["self", "distance", "attempt"] ["self", "distance"] (defScope s_Rule_attempt_at) := ⟨rfl, rfl, rfl, by decide +kernel, rfl, by decide +kernel, by decide +kernel⟩
theorem ok_aa {f C fF fO : Addr} {fd fdF fdO : FuncData} (F : Fun K "attempt_at" "Rule.attempt_at" s_Rule_attempt_at f fd) (T : Txt K mg C) (GF : FnOk P w K mg base CX0 5 fF fdF ["self", "distance"] (spFF C)) (bF : Binds K fdF ["self", "distance"] []) (mF : Meth K C "first_from" fF)
    (GO : FnOk P w K mg base CX0 3 fO fdO ["self", "attempt"] (spOff C)) (bO : Binds K fdO ["self", "attempt"] []) (mO : Meth K C "_offset_of" fO) : FnOk P w K mg base CX0 6 f fd ["self", "distance"] (spAA C) := by
  refine F.ok scAA (fun vs H Q E h => ?_) (fun cdv A outer s H vs Q E hr h => ?_)
  · obtain ⟨p, g, t, o, gs, tl, d, rfl, _⟩ := h
    rfl
  · obtain ⟨p, g, t, o, gs, tl, d, rfl, R, hd, k⟩ := h
    refine ⟨_, (pss_cons (ps_set (i := 2) scAA.nd rfl (Or.inl rfl) (pe_meth (pv 0) T.cl mF GF hr bF .nil pass0 (pa_cons (pv 1) pa_nil))) (pss_cons (ps_if (PW.pt (pw_or (pt_cmpR op_isN (pv 2) pe_non (nomark _)) (pw_or1 (pt_cmpR op_ne (pe_meth (pv 0) T.cl mO GO (hr.mono (by decide)) bO .nil pass0 (pa_cons (pv 2) pa_nil)) (pv 1) (nomark _))))) (pss_one (ps_ret pe_non)) pss_nil) (pss_one (ps_ret (pv 2))))), ?_⟩
    obtain ⟨dx, hob⟩ := R.ob
    refine ⟨_, rfl, p, dx, _, rfl, hob, flds_no _ _ _ (by decide +kernel) (by decide +kernel) (by decide +kernel), _, rfl, p, g, t, o, gs, tl, d, rfl, R, hd, fun r H1 S1 hf => ?_⟩
    refine ⟨_, rfl, rfl, _, rfl, ?_⟩
    rcases id hf with ⟨rfl, _⟩ | ⟨n, rfl, hn, _⟩
    · refine iteTb (decide_eq_true rfl) ?_
      refine iteT ?_
      exact k _ H1 S1 ⟨_, hf, .inr ⟨(fun n e => nomatch e), rfl⟩⟩
    · refine iteFb (decide_eq_false fun e => nomatch e) ?_
      obtain ⟨dx1, hob1⟩ := (R.mono S1).ob
      refine ⟨_, rfl, p, dx1, _, rfl, hob1, flds_no _ _ _ (by decide +kernel) (by decide +kernel) (by decide +kernel), _, rfl, p, g, t, o, gs, tl, n, rfl, R.mono S1, hn, fun H2 S2 => ?_⟩
      refine ⟨_, rfl, rfl, _, rfl, ?_⟩
      by_cases e : off gs tl n = d
      · refine iteFb (by rw [e]; show (!decide (V.int d = V.int d)) = false; rw [decide_eq_true rfl]; rfl) ?_
        exact ⟨_, rfl, k _ H2 (S1.trans S2) ⟨_, hf, .inl ⟨n, rfl, e, rfl⟩⟩⟩
      · refine iteTb (by show (!decide (V.int _ = V.int d)) = true; rw [decide_eq_false fun z => e (V.int.inj z)]; rfl) ?_
        exact k _ H2 (S1.trans S2) ⟨_, hf, .inr ⟨fun m em => by have := V.int.inj em; rw [← show n = m by omega]; exact e, rfl⟩⟩
end
end RS
/-! ### own errors with one field, over ArithmeticError -/
namespace ErX
open PySem PySem.W PySem.Calls PyProof.Rows PySem.HandSPX
def iA (fl : Str) (p1 p2 : Pos) : Arguments := { posonlyargs := [], args := [{ arg := "self", annotation := none, pos := p1 }, { arg := fl, annotation := none, pos := p2 }], vararg := none, kwonlyargs := [], kw_defaults := [], kwarg := none, defaults := [] }
def iB (fl : Str) (q1 q2 q3 q4 : Pos) : List Stmt := [.Assign [.Attribute (.Name "self" q1) fl q2] (.Name fl q3) q4]
def iS (fl : Str) : Scope := { kind := .function, names := [(PySem.Str.ofString "self", .local), (fl, .local)], isGenerator := false, isCoroutine := false, more := [] }
/-- what the written part says of the class cn, at C, of its field fl and of its __init__, at fI -/
structure ErTxt (K : Frag) (mg : Str → Option Value) (cn qn fl : Str) (C fI : Addr) : Prop where
  gC : mg cn = some (.ref C)
  cls : ∃ nm q N bs bm sn sub ab col dd k0 k1 k2 k3 k5, K.lookup C = some (excClassObj nm q C N bs bm true sn sub ab col dd k0 k1 k2 k3 k5 "ArithmeticError.__new__") ∧ (∀ X : String, bm.contains (.type X) = [Value.type "ArithmeticError", .type "Exception", .type "BaseException", .type "object"].contains (.type X))
  sa : findIn K (.ref C) "__setattr__" = some (some (.builtin "object.__setattr__"))
  ga : findIn K (.ref C) "__getattribute__" = some (some (.builtin "BaseException.__getattribute__"))
  gg : findIn K (.ref C) "__getattr__" = some none
  noN : findIn K (.ref C) fl = some none
  ov : excOver K C [Value.type "ArithmeticError", .type "Exception", .type "BaseException", .type "object"] = true
  tN : takerIn K C fl = some none
  iC : findIn K (.ref C) "__init__" = some (some (.ref fI))
  tC : typeIn K (.ref fI) = some (.type "function")
  kC : keepIn K (.ref C) = true
  exC : subIn K (.ref C) (.type "BaseException") = some true
  tyC : typeIn K (.ref C) = some (.type "type")
  hdC : hasDictIn K C = true
  fn : ∃ (oc : Value) (od : Option Addr) (doc pm : Value) (an : Option Addr) (cdv ct : Value) (osl : Array (Option Value)) (p1 p2 q1 q2 q3 q4 : Pos),
    K.lookup fI = some ⟨oc, od, .func (fnOf "__init__" qn (iA fl p1 p2) (iB fl q1 q2 q3 q4) (iS fl) .none .none doc pm an cdv ct), osl⟩ ∧ codeIn K cdv qn = true
  ne : (fl == ("self" : Str)) = false
  bd : ∀ (doc pm cdv ct a v : Value) (an : Option Addr) (p1 p2 q1 q2 q3 q4 : Pos), PySem.bindArgs (fnOf "__init__" qn (iA fl p1 p2) (iB fl q1 q2 q3 q4) (iS fl) .none .none doc pm an cdv ct) { pos := [a, v] } = pure [(("self" : Str), a), (fl, v)]
  nc : (cn == ("__debug__" : Str)) = false
  nd : (fl == ("__debug__" : Str)) = false
  al : ∀ a v : Value, ([(("self" : Str), a), (fl, v)].all fun y => List.lookup y.fst (iS fl).names == some NameKind.local || List.lookup y.fst (iS fl).names == some NameKind.cell) = true
  bs : ∀ (L a : Addr) (cd x v : Value), bindL (envOfC qn (iS fl) L a cd).kindOf [(("self" : Str), x), (fl, v)] (fun _ => none) "self" = some x
  bv : ∀ (L a : Addr) (cd x v : Value), bindL (envOfC qn (iS fl) L a cd).kindOf [(("self" : Str), x), (fl, v)] (fun _ => none) fl = some v
section
open Builtin Builtin.ObjectAttr
variable {prog : Program} {w : World} {A : Around} {R : Result → Shared → Prop} {hp : Heap} {g : Array GenState} {d : Drawn} {t : Nat} {os : OsState} {K : Frag} {name : Str} {tk : Tok} {v : Value} {x C dx : Addr} {fv : Array Value} {cd : ClassData}
/-- the first field of an error -/
theorem ar_osa (X : K.In hp) (hx : hp.get? x = some { cls := .ref C, data := .fields fv }) (ov : excOver K C [Value.type "ArithmeticError", .type "Exception", .type "BaseException", .type "object"] = true) (ht : takerIn K C name = some none) (hcd : clsIn K C = some cd) (hh : cd.hasDict = true)
    (hq : ∀ h' tk' dx, (∀ b o, b ≠ x → hp.get? b = some o → h'.get? b = some o) ∧ hp.objs.size ≤ dx ∧ dx ≠ x ∧ h'.get? x = some { cls := .ref C, dict := some dx, data := .fields fv } ∧ h'.Ns1 dx (fun y => if y = name then some v else none) →
      R (.ok (.ret .none)) ⟨h', g, d, tk', os⟩) :
    codeAny (model prog w) A (.call (.builtin "object.__setattr__") ⟨[.ref x, .str name tk, v], []⟩) R ⟨hp, g, d, t, os⟩ := by
  have J : InstAt hp x { cls := .ref C, data := .fields fv } C none := ⟨hx, rfl, rfl, trivial⟩
  refine osa_openX PySem.F.store_ArithmeticError X J ov ht fun b => ?_
  have hxs : x ≠ hp.objs.size := Nat.ne_of_lt (Heap.lt_size hx)
  have lc : Looks (model prog w) hp (classData C) cd := looks_clsIn X hcd
  obtain ⟨nm, bs, mro, ns, qn, hd, sn, sb, ab, col, del⟩ := cd
  obtain rfl : hd = true := hh
  dsimp only
  unfold storeInOwnDict ownDictForStores
  repeat first
    | with_reducible refine store_in_new ?_ ?_
    | with_reducible refine wpAny_loadPart_at hx ?_
    | with_reducible refine lc.at ?_
    | wp_step
  · have en : (hp.push { cls := Value.type "dict", data := Data.dict #[] }).Ns hp.objs.size fun _ => none := Heap.Ns.new hp (Value.type "dict")
    exact en.at fun o e => by
      rw [Heap.get?_update_ne _ _ _ _ hxs.symm]
      exact e
  · intro h' tk' hn' hs
    have up : ∀ b o, hp.get? b = some o → (hp.push { cls := Value.type "dict", data := Data.dict #[] }).get? b = some o := fun b o e => Heap.get?_push_of_some _ e
    refine hq h' tk' hp.objs.size ⟨fun b o hb ho => ?_, Nat.le_refl _, hxs.symm, ?_, hn'⟩
    · have lt : b ≠ hp.objs.size := Nat.ne_of_lt (Heap.lt_size ho)
      rw [hs.2 b lt, Heap.get?_update_ne _ _ _ _ hb]
      exact up b o ho
    · rw [hs.2 x hxs]
      exact Heap.get?_update_self _ (up x _ hx) rfl
/-- a further field -/
theorem ar_osa2 {m0 : Str → Option Value} {nl : List Str} (X : K.In hp) (hx : hp.get? x = some { cls := .ref C, dict := some dx, data := .fields fv }) (hns : hp.Ns1 dx m0) (hw : Within m0 nl) (hz : nl.length ≤ 1000) (ov : excOver K C [Value.type "ArithmeticError", .type "Exception", .type "BaseException", .type "object"] = true)
    (ht : takerIn K C name = some none) (hcd : clsIn K C = some cd) (hh : cd.hasDict = true)
    (hq : ∀ h' tk', (∀ b o, b ≠ dx → hp.get? b = some o → h'.get? b = some o) ∧ h'.Ns1 dx (fun y => if y = name then some v else m0 y) → R (.ok (.ret .none)) ⟨h', g, d, tk', os⟩) :
    codeAny (model prog w) A (.call (.builtin "object.__setattr__") ⟨[.ref x, .str name tk, v], []⟩) R ⟨hp, g, d, t, os⟩ := by
  obtain ⟨oD, esD, epD, hoD, hdD, _⟩ := hns.count hw
  have J : InstAt hp x { cls := .ref C, dict := some dx, data := .fields fv } C (some oD) := ⟨hx, rfl, rfl, hoD⟩
  refine osa_openX PySem.F.store_ArithmeticError X J ov ht fun b => ?_
  have lc : Looks (model prog w) hp (classData C) cd := looks_clsIn X hcd
  obtain ⟨nm, bs, mro, ns, qn, hd, sn, sb, ab, col, del⟩ := cd
  obtain rfl : hd = true := hh
  dsimp only
  unfold storeInOwnDict ownDictForStores
  repeat first
    | with_reducible refine PySem.OEX.store_in_old hns hw hz ?_
    | with_reducible refine wpAny_loadPart_at hx ?_
    | with_reducible refine lc.at ?_
    | wp_step
  intro h' tk' hn' hs
  refine hq h' tk' ⟨fun b o hb ho => ?_, hn'⟩
  rw [hs.2 b hb]
  exact ho
end
theorem one_size (v : Value) : [v].length ≤ sizeLine := by
  rw [sizeLine_eq]
  exact (by decide : 1 ≤ 16777216)
theorem ldC {M : Model} {s : Shared} {name : Str} {scope : Scope} {L a : Addr} {cd : Value} {m : Str → Option Value} {x : Str} {pos : Pos} {v : Value} {Q : Value → Shared → Prop} {A : Around} {E : Value → Shared → Prop} (hn : s.heap.Ns L m) (hv : m x = some v) (h : Q v s)
    (hk : scope.kind = .function := by rfl) (hl : (envOfC name scope L a cd).kindOf x = some .local := by rfl) (hd : (x == ("__debug__" : Str)) = false := by decide) :
    wpAny M A (eval (.Name x pos) (envOfC name scope L a cd)) Q E s := wpAny_Name (wpAny_loadName_local hk hl hn hv h) hd
/-- what __init__ leaves of a fresh exception at x -/
structure InitEnd (fl : Str) (h h' : Heap) (x C dx t1 : Addr) (v : Value) : Prop where
  keep : ∀ b o, b ≠ x → h.get? b = some o → h'.get? b = some o
  obj : h'.get? x = some { cls := .ref C, dict := some dx, data := .fields #[.ref t1, .none, .none, .none, .bool false, .none] }
  dbig : h.objs.size ≤ dx
  dne : dx ≠ x
  ns : h'.Ns1 dx (fun y => if y = fl then some v else none)
/-- a made error -/
structure OwnMade (fl : Str) (h h' : Heap) (e C d : Addr) (v : Value) : Prop where
  keep : ∀ b o, h.get? b = some o → h'.get? b = some o
  new : h.objs.size ≤ e
  obj : ∃ oe vs, h'.get? e = some oe ∧ oe.cls = .ref C ∧ oe.dict = some d ∧ oe.data = .fields vs ∧ vs[1]? = some .none
  dbig : h.objs.size ≤ d
  dne : d ≠ e
  ns : h'.Ns1 d (fun y => if y = fl then some v else none)
section
variable {prog : Program} {w : World} {A : Around} {E : Value → Shared → Prop} {R : Result → Shared → Prop} {s : Shared} {K : Frag} {mg : Str → Option Value} {cn qn fl : Str} {C fI : Addr}
theorem kind_self {name : Str} {L a : Addr} {cd : Value} : (envOfC name (iS fl) L a cd).kindOf "self" = some .local := by
  first | rfl | with_unfolding_all rfl | kernel_rfl
theorem kind_fl (ne : (fl == ("self" : Str)) = false) {name : Str} {L a : Addr} {cd : Value} : (envOfC name (iS fl) L a cd).kindOf fl = some .local := by
  show List.lookup fl [(PySem.Str.ofString "self", NameKind.local), (fl, .local)] = some .local
  have ne' : (fl == PySem.Str.ofString "self") = false := ne
  have sf : (fl == fl) = true := by simp
  simp only [List.lookup, ne', sf]
theorem er_init (T : ErTxt K mg cn qn fl C fI) {x t0 : Addr} {v : Value} (X : K.In s.heap) (hlim : s.heap.NoLimit) (hx : s.heap.get? x = some (excO C t0)) (_hnx : K.lookup x = none) (hroom : A.depth < recursionLimit)
    (hq : ∀ h' tk dx, InitEnd fl s.heap h' x C dx t0 v → R (.ok (.ret .none)) { s with heap := h', toks := tk }) :
    codeAny (model prog w) A (.call (.ref fI) ⟨[.ref x, v], []⟩) R s := by
  obtain ⟨oc, od, doc, pm, an, cdv, ct, osl, p1, p2, q1, q2, q3, q4, ho, hcd⟩ := T.fn
  obtain ⟨nm, q, N, bs, bm, sn, sub, ab, col, dd, k0, k1, k2, k3, k5, hC, hbT⟩ := T.cls
  have hcl : clsIn K C = some { name := nm, bases := bs, mro := .ref C :: bm, ns := N, qualname := q, hasDict := true, slotNames := sn, subclasses := sub, abstract := ab, collection := col, hasDel := false } := by unfold clsIn; rw [hC] <;> rfl
  refine Att.call_fn (binds := [("self", .ref x), (fl, v)]) X hlim ho hcd hroom (BindsTo.of_eq (T.bd _ _ _ _ _ _ _ _ _ _ _ _ _)) (T.al _ _) (fun s₁ IC => ?_) rfl rfl rfl
  obtain ⟨h₁, tk₁, rfl⟩ := IC.toInCall.same
  have k : ∀ b o, s.heap.get? b = some o → h₁.get? b = some o := IC.toInCall.keep
  have hn := IC.toInCall.ns
  have hxL : s.heap.objs.size ≠ x := Nat.ne_of_gt (Heap.lt_size hx)
  have X₁ : K.In h₁ := X.keeps k
  have hx₁ := k _ _ hx
  show wpAny _ _ (execs _ _) _ _ _
  refine wpAny_execs_cons (plainObj_wpAny_Assign_Attribute ?_)
  refine ldC (v := v) hn (T.bv _ _ _ _ _) (ldC (v := .ref x) hn (T.bs _ _ _ _ _) ?_ rfl kind_self) rfl (kind_fl T.ne) T.nd
  refine set_plain X₁ (ox := excO C t0) (od := none) ⟨hx₁, rfl, rfl, trivial⟩ T.sa ?_
  refine ar_osa X₁ hx₁ T.ov T.tN hcl rfl (fun h₃ tk₃ dx ⟨k₃, dn, dne, hx₃, hn₃⟩ => ?_)
  show wpAny _ _ (execs _ _) _ _ _
  have z : s.heap.objs.size < h₁.objs.size := hn.lt
  exact wpAny_execs_nil (hq h₃ tk₃ dx ⟨fun b o hb e => k₃ b o hb (k b o e), hx₃, Nat.le_of_lt (Nat.lt_of_lt_of_le z dn), dne, hn₃⟩)
theorem er_made (T : ErTxt K mg cn qn fl C fI) {v : Value} (X : K.In s.heap) (hlim : s.heap.NoLimit) (hroom : A.depth + 1 < recursionLimit)
    (hq : ∀ h' tk e d, OwnMade fl s.heap h' e C d v → R (.ok (.ret (.ref e))) { s with heap := h', toks := tk }) :
    codeAny (model prog w) A (.call (.ref C) ⟨[v], []⟩) R s := by
  obtain ⟨nm, q, N, bs, bm, sn, sub, ab, col, dd, k0, k1, k2, k3, k5, hC, hbT⟩ := T.cls
  obtain ⟨hp, g, dr, tk, os⟩ := s
  have k : ∀ b o, hp.get? b = some o → ((hp.push (kdv_tup [v])).push (excO C hp.objs.size)).get? b = some o := fun b o e => Heap.get?_push_of_some _ (Heap.get?_push_of_some _ e)
  have hget : ((hp.push (kdv_tup [v])).push (excO C hp.objs.size)).get? (hp.objs.size + 1) = some (excO C hp.objs.size) := by heap_get
  have hnx : K.lookup (hp.objs.size + 1) = none := by
    cases e : K.lookup (hp.objs.size + 1) with
    | none => rfl
    | some o =>
      have z : hp.get? (hp.objs.size + 1) = some o := X _ _ e
      exact absurd (Nat.lt_of_succ_lt (Heap.lt_size z)) (Nat.lt_irrefl _)
  refine call_own F.excBase_ArithmeticError hbT (X _ _ hC) (looks_findIn X T.iC) (fun self => bind_fn X self T.tC) (one_size v) ?_
  refine er_init (s := ⟨(hp.push (kdv_tup [v])).push (excO C hp.objs.size), g, dr, tk, os⟩) T (X.keeps k) (hlim.keeps k) hget hnx ?_ fun h' tk' dx ⟨k', hx, dn, dne, hns⟩ => ?_
  · show A.depth + 1 < recursionLimit
    exact hroom
  · have old : ∀ b o, hp.get? b = some o → h'.get? b = some o := fun b o e => k' b o (Nat.ne_of_lt (Nat.lt_succ_of_lt (Heap.lt_size e))) (k b o e)
    have z : hp.objs.size + 1 + 1 ≤ dx := by
      first
        | (simpa only [Heap.size_push] using dn)
        | exact dn
        | (have q := dn; rw [Heap.size_push, Heap.size_push] at q; exact q)
    exact ⟨rfl, hq h' tk' (hp.objs.size + 1) dx ⟨old, Nat.le_succ _, ⟨_, _, hx, rfl, rfl, rfl, rfl⟩, Nat.le_trans (Nat.le_trans (Nat.le_succ _) (Nat.le_succ _)) z, dne, hns⟩⟩
end
end ErX
namespace L2
open PySem PySem.Spec PyProof.Rows
theorem relO_er {v : V} {v' : Value} (fl : Str) (r : RelV v v') (f : Str) : RelO (List.lookup f [(fl, v)]) (if f = fl then some v' else none) := by
  by_cases hw : f = fl
  · subst hw
    rw [if_pos rfl]
    have q : List.lookup f [(f, v)] = some v := by simp [List.lookup]
    rw [q]
    exact r
  · rw [if_neg hw]
    have qw : (f == fl) = false := by simpa using hw
    have q2 : List.lookup f [(fl, v)] = none := by simp [List.lookup, qw]
    rw [q2]
    trivial
section
variable {X : Cx} {cn qn fl : Str} {C fI : Addr}
/-- cn(e) -/
def tMkEr (fl : Str) (C : Addr) (ta : TA) : St → Hp → XK → Prop := fun σ H Q => ta σ H fun vs H1 => ∃ v, vs = [v] ∧ ∀ d, H1 d = none → Q (.ref C) (some d) (upd H1 d (.xd [(fl, v)]))
theorem pmk_er {a : Expr} {ta : TA} {p pos : Pos} {k : Nat} (T : ErX.ErTxt X.K X.mg cn qn fl C fI) (hr : Room k X.A) (ha : PA X [a] ta) (hg : Gl X cn := by rfl)
    (he : starEach (a :: []) X.env = (false, eval a X.env) :: starEach [] X.env := by rfl) (hpl : (backTo pos (starEach [] X.env)).any (·.1) = false := by rfl) :
    PMk X (.Call (.Name cn p) [a] [] pos) (tMkEr fl C ta) := by
  intro pins s σ H Q I h
  refine wpAny_Call_Name_kw (ld_glob I hg T.gC ?_ T.nc)
  refine PySem.W.callWith_K (h₀ := X.base) I.ok.mod.kin T.kC (thn (ha.run pos pins s σ H _ I h) fun us s1 hh => ?_) he hpl
  obtain ⟨vs, H1, I1, r1, v, ev, q1⟩ := hh
  subst ev
  refine ⟨I1.kIn, ?_⟩
  cases r1 with
  | cons rv rn =>
    rename_i v' us'
    cases rn
    show wpAny _ _ (call (.ref C) [v']) _ _ _
    have hlim := I1.nolimit
    obtain ⟨hp, g, dr, tk, os⟩ := s1
    refine wpAny_call (ErX.er_made T I1.kIn hlim (by have := hr.dp; omega) fun h' tk' e d M => ?_)
    show MkP X pins σ Q (.ref e) ⟨h', g, dr, tk', os⟩
    obtain ⟨oe, fv, hoe, hc, hd, hdat, h1⟩ := M.obj
    have hns := M.ns
    obtain ⟨G', g1, g2⟩ := restrict h' fun b => decide (b ≠ e)
    have gk : ∀ b, b ≠ e → G'.get? b = h'.get? b := fun b hb => g1 b (decide_eq_true hb)
    have ge : G'.get? e = none := g2 e (by simp)
    have old : ∀ b o, hp.get? b = some o → G'.get? b = some o := fun b o q => (gk b (Nat.ne_of_lt (Nat.lt_of_lt_of_le (Heap.lt_size q) M.new))).trans (M.keep b o q)
    have ob : ObjOk X.prog X.w (upd H1 d (.xd [(fl, v)])) G' d (.xd [(fl, v)]) :=
      ⟨_, hns.at (fun o q => (gk d M.dne).trans q), fun f => relO_er fl rv f⟩
    have J : Inv X pins σ (upd H1 d (.xd [(fl, v)])) ⟨G', g, dr, tk', os⟩ := I1.laid (t' := tk') old M.dbig ob
    refine ⟨e, oe, fv, ⟨G', g, dr, tk', os⟩, _, .ref C, some d, rfl, J, fun b o q => ?_, ge, hoe, ⟨hc, hd⟩, hdat, h1, ?_, rfl, I1.bare, raises_own T.exC T.tyC, q1 d (I1.hok.fresh M.dbig)⟩
    · by_cases hb : b = e
      · have q' : G'.get? b = some o := q
        rw [hb, ge] at q'; cases q'
      · exact (gk b hb).symm.trans q
    · rw [upd_ne (Ne.symm M.dne)]
      exact I1.hok.fresh M.new
/-- raise cn(e) -/
def tRaiseEr (fl : Str) (C : Addr) (W : WX) (ta : TA) : TS := fun _ σ H => tMkEr fl C ta σ H fun cls d H' => W cls d σ H'
theorem ps_raiseEr {a : Expr} {ta : TA} {W : WX} {p pos pos2 : Pos} {k : Nat} (hc : X.calm = true) (T : ErX.ErTxt X.K X.mg cn qn fl C fI) (hr : Room k X.A) (tk : Takes X W) (ha : PA X [a] ta) (hg : Gl X cn := by rfl)
    (he : starEach (a :: []) X.env = (false, eval a X.env) :: starEach [] X.env := by rfl) (hpl : (backTo pos (starEach [] X.env)).any (·.1) = false := by rfl) :
    PS X (.Raise (some (.Call (.Name cn p) [a] [] pos)) none pos2) (tRaiseEr fl C W ta) := ps_raise hc tk (pmk_er T hr ha hg he hpl)
/-- e.fl, e the exception that the suite holds (at a; its class cls, its dict d) -/
def tByEr (fl : Str) (C : Addr) (a : Addr) (cls : Value) (d : Option Addr) (te : TE) : TE := fun σ H Q => te σ H fun x H1 => x = .ref a ∧ cls = .ref C ∧ ∃ (dd : Addr) (v : V), d = some dd ∧ H1 dd = some (.xd [(fl, v)]) ∧ Q v H1
theorem pe_byEr {a : Addr} {oe : Obj} {cls : Value} {d : Option Addr} {pn : List (Addr × Obj)} {e : Expr} {te : TE} {pos : Pos} (T : ErX.ErTxt X.K X.mg cn qn fl C fI) (hz : Zc cls d oe) (hf : ∃ vs, oe.data = .fields vs) (he : PE (X.suite a ((a, oe) :: pn)) e te)
    (hb : attributeBase e fl X.env (eval e X.env) = eval e X.env := by rfl) :
    PE (X.suite a ((a, oe) :: pn)) (.Attribute e fl pos) (tByEr fl C a cls d te) := by
  refine ⟨fun pins s σ H Q I h => ?_⟩
  refine attr_of hb (thn (he.run pins s σ H _ I h) fun u s1 hh => ?_)
  obtain ⟨x, H1, I1, rx, ex, ec, dd, v, ed, ea, q⟩ := hh
  subst ex
  obtain rfl : u = Value.ref a := rx
  subst ec
  subst ed
  obtain ⟨ha, _⟩ := I1.pin (a, oe) (List.mem_append_left _ List.mem_cons_self)
  obtain ⟨vs, hd⟩ := hf
  have hx : ObjOk X.prog X.w H1 s1.heap dd (.xd [(fl, v)]) := I1.hok dd _ ea
  obtain ⟨mA, hns, hr⟩ := hx
  obtain ⟨od, ho, hl⟩ := lookIn_ns hns
  have l : List.lookup fl [(fl, v)] = some v := by simp [List.lookup]
  obtain ⟨u, hu, ru⟩ := RelO.some_of (v := v) (o := mA fl) (by rw [← l]; exact hr fl)
  have J : PySem.W.InstAt s1.heap a oe C (some od) := ⟨ha, hz.1, by unfold PySem.W.notCls; rw [hd] <;> rfl, by rw [hz.2]; exact ho⟩
  exact HandSPX.exc_get I1.kIn J T.ga T.gg T.exC (PySem.W.findObj_own T.hdC T.noN rfl (by rw [hl, hu])) (handed_of ru) ⟨v, H1, I1.tok _, ru, q⟩
end
end L2
/-! ### the caught error in the suite: isinstance, its fields -/
namespace L2
open PySem PySem.Spec PyProof.Rows
/-- D is an error's class whose instances are asked plainly -/
structure ErCls (K : PySem.W.Frag) (D : Addr) : Prop where
  cl : (PySem.W.clsIn K D).isSome = true
  ga : PySem.W.findIn K (.ref D) "__getattribute__" = some (some (.builtin "BaseException.__getattribute__"))
  gg : PySem.W.findIn K (.ref D) "__getattr__" = some none
  sb : PySem.W.subIn K (.ref D) (.type "BaseException") = some true
  hd : PySem.W.hasDictIn K D = true
  ca : PySem.W.findIn K (.ref D) "__class__" = some (some (.builtin "object.__class__"))
  cn : PySem.W.specialIn K (.builtin "object.__class__") "__get__" = some (some (.builtin "getset_descriptor.__get__"))
  ct : PySem.W.takesIn K (.builtin "object.__class__") = some true
  cm : PySem.W.mroIn K D (.type "object") = some true
/-- the error held at a is of the class D, its fields stand in the dict at dd -/
structure Held (H : Hp) (cls : Value) (d : Option Addr) (D dd : Addr) (fs : List (Str × V)) : Prop where
  ec : cls = .ref D
  ed : d = some dd
  ho : H dd = some (.xd fs)
section
variable {X : Cx} {a : Addr} {oe : Obj} {cls : Value} {d : Option Addr} {pn : List (Addr × Obj)}
theorem held_at {pins : List (Addr × Obj)} {σ : St} {H : Hp} {s : Shared} {D dd : Addr} {fs : List (Str × V)} (hz : Zc cls d oe) (hf : ∃ vs, oe.data = .fields vs) (I : Inv (X.suite a ((a, oe) :: pn)) pins σ H s) (h : Held H cls d D dd fs) :
    ∃ od, PySem.W.InstAt s.heap a oe D (some od) ∧ ∀ fl : Str, ∃ o, PySem.W.lookIn fl od = some o ∧ RelO (fs.lookup fl) o := by
  obtain ⟨ec, ed, ho⟩ := h
  obtain ⟨ha, _⟩ := I.pin (a, oe) (List.mem_append_left _ List.mem_cons_self)
  obtain ⟨vs, hd⟩ := hf
  obtain ⟨mA, hns, hr⟩ := (show ObjOk X.prog X.w H s.heap dd (.xd fs) from I.hok dd _ ho)
  obtain ⟨od, hod, hl⟩ := lookIn_ns hns
  refine ⟨od, ⟨ha, by rw [hz.1, ec], by unfold PySem.W.notCls; rw [hd] <;> rfl, by rw [hz.2, ed]; exact hod⟩, fun fl => ⟨mA fl, ?_, hr fl⟩⟩
  rw [hl]
/-- isinstance(e, c) -/
def rIsEr (K : PySem.W.Frag) (a : Addr) (cls : Value) (d : Option Addr) : List V → Hp → VK → Prop := fun xs H Q =>
  ∃ (D dd : Addr) (fs : List (Str × V)) (c : V) (cv : Value) (b : Bool), Held H cls d D dd fs ∧ ErCls K D ∧ xs = [.ref a, c] ∧ (∀ u, RelV c u → u = cv) ∧ PySem.W.kitOne K (.ref D) cv = some b ∧ Q (.bl b) H
theorem call_isEr (hz : Zc cls d oe) (hf : ∃ vs, oe.data = .fields vs) : CallR (X.suite a ((a, oe) :: pn)) (.builtin "isinstance") (rIsEr X.K a cls d) := by
  rintro pins s σ H xs us Q I r ⟨D, dd, fs, c, cv, b, hh, C, rfl, hcv, e, q⟩
  obtain ⟨od, J, _⟩ := held_at hz hf I hh
  match us, r with
  | [u1, u2], .cons r1 (.cons r2 .nil) =>
    obtain rfl : u1 = Value.ref a := r1
    obtain rfl := hcv _ r2
    refine PySem.W.kia_one (PySem.W.kitx_exc C.cl C.ga C.gg C.sb C.ca C.cn C.ct C.cm) I.kIn J e (by intro z; cases z) fun tk => ?_
    exact ⟨.bl b, H, I.kept (t' := tk) fun _ _ z => z, rfl, q⟩
/-- e.fl -/
def tByX (K : PySem.W.Frag) (fl : Str) (a : Addr) (cls : Value) (d : Option Addr) (te : TE) : TE := fun σ H Q => te σ H fun x H1 =>
  ∃ (D dd : Addr) (fs : List (Str × V)) (v : V), x = .ref a ∧ Held H1 cls d D dd fs ∧ ErCls K D ∧ PySem.W.findIn K (.ref D) fl = some none ∧ fs.lookup fl = some v ∧ Q v H1
theorem pe_byX {fl : Str} {e : Expr} {te : TE} {pos : Pos} (hz : Zc cls d oe) (hf : ∃ vs, oe.data = .fields vs) (he : PE (X.suite a ((a, oe) :: pn)) e te)
    (hb : attributeBase e fl X.env (eval e X.env) = eval e X.env := by rfl) :
    PE (X.suite a ((a, oe) :: pn)) (.Attribute e fl pos) (tByX X.K fl a cls d te) := by
  refine ⟨fun pins s σ H Q I h => attr_of hb (thn (he.run pins s σ H _ I h) fun u s1 hh => ?_)⟩
  obtain ⟨x, H1, I1, rx, D, dd, fs, v, rfl, hd, C, no, hv, q⟩ := hh
  obtain rfl : u = Value.ref a := rx
  obtain ⟨od, J, hl⟩ := held_at hz hf I1 hd
  obtain ⟨o, ho, hr⟩ := hl fl
  obtain ⟨u, rfl, ru⟩ := RelO.some_of (v := v) (o := o) (by rw [← hv]; exact hr)
  exact HandSPX.exc_get I1.kIn J C.ga C.gg C.sb (PySem.W.findObj_own C.hd no rfl ho) (handed_of ru) ⟨v, H1, I1.tok _, ru, q⟩
end
end L2
/-! ### isinstance and clauses by the classes' own facts -/
namespace L2
open PySem PySem.Spec PyProof.Rows
section
variable {K : PySem.W.Frag} {C D : Addr} {b : Bool}
theorem kit_cls_of (hc : (PySem.W.clsIn K D).isSome = true) (ht : PySem.W.typeIn K (.ref D) = some (.type "type")) (hs : PySem.W.subIn K (.ref C) (.ref D) = some b) : PySem.W.kitCls K (.ref C) (.ref D) = some b := by
  show (if ((PySem.W.clsIn K D).isSome && PySem.W.typeIn K (.ref D) == some (.type "type")) = true then PySem.W.subIn K (.ref C) (.ref D) else none) = some b
  rw [hc, ht, if_pos (by rfl)]
  exact hs
theorem kit_own (hc : (PySem.W.clsIn K D).isSome = true) (ht : PySem.W.typeIn K (.ref D) = some (.type "type")) (hs : PySem.W.subIn K (.ref C) (.ref D) = some b) (hn : C ≠ D) : PySem.W.kitOne K (.ref C) (.ref D) = some b := by
  have e : (Value.ref C == Value.ref D) = false := Bool.eq_false_iff.mpr fun z => hn (Value.ref.inj (beq_iff_eq.mp z))
  unfold PySem.W.kitOne
  rw [if_neg (by rw [e]; decide)]
  exact kit_cls_of hc ht hs
theorem kit_self : PySem.W.kitOne K (.ref C) (.ref C) = some true := if_pos (beq_self_eq_true _)
theorem kit_bltn {T : String} (hm : PySem.W.kitMeta T = true) (hs : PySem.W.subIn K (.ref C) (.type T) = some b) : PySem.W.kitOne K (.ref C) (.type T) = some b := by
  have e : (Value.ref C == Value.type T) = false := Bool.eq_false_iff.mpr fun z => by cases (beq_iff_eq.mp z)
  unfold PySem.W.kitOne
  rw [if_neg (by rw [e]; decide)]
  show (if PySem.W.kitMeta T = true then PySem.W.subIn K (.ref C) (.type T) else none) = some b
  rw [if_pos hm]
  exact hs
theorem exm_own (h1 : PySem.W.subIn K (.ref D) (.type "BaseException") = some true) (hc : (PySem.W.clsIn K D).isSome = true) (ht : PySem.W.typeIn K (.ref D) = some (.type "type")) (hs : PySem.W.subIn K (.ref C) (.ref D) = some b) : PySem.W.exmOne K (.ref C) (.ref D) = some b := by
  unfold PySem.W.exmOne
  rw [h1, if_pos (by rfl)]
  exact kit_cls_of hc ht hs
end
end L2
namespace LamX
open PySem PySem.Spec PyProof.Rows L2
section
variable {X : Cx}
theorem takes_len {X : Cx} {W : WX} (t : Takes X W) : Takes X (fun cls d σ H => σ.length = X.N.length → W cls d σ H) := by
  rintro u s' ⟨a, B, sI, pins, σ, H, cls, d, e, I, nb, up, sky, na, os, ag, w⟩
  exact t u s' ⟨a, B, sI, pins, σ, H, cls, d, e, I, nb, up, sky, na, os, ag, w I.len⟩
/-- told: try: a() / except e as n: suite / rest -/
def TSaid (K : PySem.W.Frag) (CS : Addr) (i : Nat) (Ng : List Str) (ts : Addr → Value → Option Addr → TS) (tr : TS) : (XK → Hp → VK → Prop) → Hp → VK → Prop := fun tl H Q => ∀ f : Addr,
  tl (fun cls d H' => ∃ b, PySem.W.exmOne K cls (.ref CS) = some b ∧ (b = true → ∀ (a : Addr) (σ : L2.St), H' a = none → σ.length = Ng.length →
      ts a cls d { nx := fun σ' H2 => tr { nx := fun _ H3 => Q .non H3, rt := Q } (σ'.set i none) H2, rt := Q } (σ.set i (some (.ref a))) H') ∧ (b = false → False)) H
    (fun _ H' => tr { nx := fun _ H3 => Q .non H3, rt := Q } (L2.start Ng [.ref f]) H')
theorem said_gives {Ng : List Str} {x a e n q : Str} {sg : Scope} {g CS : Addr} {cdg : Value} {i : Nat} {p1 p2 p3 p4 p5 p6 : Pos} {b₀ : Stmt} {suite rest : List Stmt} {ts : Addr → Value → Option Addr → TS} {tr : TS}
    (hge : sg.names.lookup e = some .globalImplicit) (hme : X.mg e = some (.ref CS)) (hde : (e == ("__debug__" : Str)) = false) (hN : Ng.Nodup) (hi : Ng[i]? = some n) (hln : sg.names.lookup n = some .local) (h0 : ∀ f : Addr, (L2.start Ng [V.ref f])[0]? = some (some (V.ref f)))
    (hsu : ∀ (s : Shared) (H : Hp) (a : Addr) (oe : Obj) (cls : Value) (d : Option Addr) (pn : List (Addr × Obj)), Zc cls d oe → (∃ vs, oe.data = .fields vs) →
      PSs ((cxOf C8.CX0 X.prog X.w X.K X.mg X.base Ng x sg g cdg X.A X.stack s H C8.E0).nox.suite a ((a, oe) :: pn)) (b₀ :: suite) (ts a cls d))
    (hre : ∀ (s : Shared) (H : Hp), PSs (cxOf C8.CX0 X.prog X.w X.K X.mg X.base Ng x sg g cdg X.A X.stack s H C8.E0).nox rest tr)
    (hsw : ∀ (s : Shared) (H : Hp) (pn : List (Addr × Obj)) (xe : Value → Shared → Prop), swapsWith (.Call (.Name a p1) [] [] p2) none p3.line ((cxOf C8.CX0 X.prog X.w X.K X.mg X.base Ng x sg g cdg X.A X.stack s H C8.E0).nox.tr pn xe).env = pure false := by intros; rfl) :
    GivesTo X Ng x sg g cdg (.Try [.Expr (.Call (.Name a p1) [] [] p2) p3] [.ExceptHandler (some (.Name e p4)) (some n) (b₀ :: suite) p5] [] [] p6 :: rest) a q (TSaid X.K CS i Ng ts tr) := by
  intro f c' s H Q tl act hc h
  have hgl : Gl (cxOf C8.CX0 X.prog X.w X.K X.mg X.base Ng x sg g cdg X.A X.stack s H C8.E0).nox e := hge
  refine ⟨_, pss_cons (ps_try_as (X := (cxOf C8.CX0 X.prog X.w X.K X.mg X.base Ng x sg g cdg X.A X.stack s H C8.E0).nox) (c := .ref CS) (i := i)
      (tb := fun W D σ H => ∃ Ech : XK, (∀ cls d (σ' : L2.St) H', Ech cls d H' → σ'.length = Ng.length → W cls d σ' H') ∧ σ[0]? = some (some (.ref f)) ∧ H c' = some (CodeO c' q) ∧ tl Ech H (fun _ H' => D.nx σ H'))
      rfl rfl hN hi hln ⟨hgl, hde, .inl hme⟩ LamX.takes0 (fun W pn xe tk _ => ?_) (fun a oe cls d pn hz hf => hsu s H a oe cls d pn hz hf)) (hre s H), ?_⟩
  · refine ⟨fun pins s' σ H' D I h' => ?_⟩
    obtain ⟨Ech, hW, h1, h2, h3⟩ := h'
    have hp := act _ pn xe Ech p1 p2 (takes_len tk) (fun cls d σ' H' z hl => hW cls d σ' H' z hl)
    have hq := pss_one (ps_expr (pos := p3) hp (hsw s H pn xe))
    exact hq.run pins s' σ H' D I ⟨h1, h2, h3⟩
  · exact ⟨fun cls d H' => ∃ b, PySem.W.exmOne X.K cls (.ref CS) = some b ∧ (b = true → ∀ (a : Addr) (σ : L2.St), H' a = none → σ.length = Ng.length →
      ts a cls d { nx := fun σ' H2 => tr { nx := fun _ H3 => Q .non H3, rt := Q } (σ'.set i none) H2, rt := Q } (σ.set i (some (.ref a))) H') ∧ (b = false → False), fun cls d σ' H' ⟨b, e1, e2, e3⟩ hl => ⟨b, e1, fun hb a ha => e2 hb a σ' ha hl, fun hb => e3 hb⟩, h0 f, hc, h f⟩
end
end LamX
namespace RS
open PySem L2
/-! ### what is no integer, and the defs of a rule that raise -/
/-- a value whose type is known and is no int -/
def OddV (K : PySem.W.Frag) (H : Hp) (x : V) : Prop := ∃ tn : String, TyX K H x (.type tn) ∧ (tn = "bool" ∨ kitB tn "int" = some false)
section
variable {P : Program} {w : World} {K : PySem.W.Frag} {mg : Str → Option Value} {base : Heap}
def spIsAny (K : PySem.W.Frag) : Sp := fun vs H Q _ => ∃ x, vs = [x] ∧ ((∃ i, x = .int i ∧ Q (.bl true) H) ∨ (OddV K H x ∧ Q (.bl false) H))
theorem ok_isAny {f C : Addr} {fd : FuncData} (F : Fun K "is_integer" "is_integer" s_is_integer f fd) (T : Txt K mg C) : FnOk P w K mg base CX0 1 f fd ["value"] (spIsAny K) := by
  refine F.ok scIsInt (fun vs H Q E h => ?_) (fun cdv A outer s H vs Q E hr h => ?_)
  · obtain ⟨x, rfl, _⟩ := h
    rfl
  · obtain ⟨x, rfl, k⟩ := h
    refine ⟨_, pss_one (ps_ret (pe_and (pe_callB call_isi (by rfl) T.isi (by decide +kernel) (pa_cons (pv 0) (pa_cons (pe_bltn (v := .ty "int") (by rfl) T.int (by decide +kernel) rfl) pa_nil))) (pe_one (pe_not (pe_callB call_isi (by rfl) T.isi (by decide +kernel) (pa_cons (pv 0) (pa_cons (pe_bltn (v := .ty "bool") (by rfl) T.bool (by decide +kernel) rfl) pa_nil))))))), ?_⟩
    rcases k with ⟨i, rfl, k⟩ | ⟨⟨tn, ty, k2⟩, k⟩
    · refine ⟨_, rfl, _, _, _, _, _, rfl, .ty _, .base (.int i), kit_ty (r := true) (by decide +kernel), true, rfl, ?_⟩
      exact iteT ⟨_, rfl, _, _, _, _, _, rfl, .ty _, .base (.int i), kit_ty (r := false) (by decide +kernel), false, rfl, k⟩
    · rcases k2 with rfl | k2
      · refine ⟨_, rfl, _, _, _, _, _, rfl, .ty _, ty, kit_ty (r := true) (by decide +kernel), true, rfl, ?_⟩
        exact iteT ⟨_, rfl, _, _, _, _, _, rfl, .ty _, ty, kit_ty (r := true) (by decide +kernel), true, rfl, k⟩
      · exact ⟨_, rfl, _, _, _, _, _, rfl, .ty _, ty, kit_ty (r := false) k2, false, rfl, iteF k⟩
/-- an attempt that is refused: the class and the field -/
def Refused (K : PySem.W.Frag) (H : Hp) (gs : List Int) (tl : Tl) (x : V) : Prop := OddV K H x ∨ ∃ i, x = .int i ∧ (i < 0 ∨ (tl = .fin ∧ (gs.length : Int) < i))
structure Ers (K : PySem.W.Frag) (mg : Str → Option Value) (CA fA CL fL : Addr) : Prop where
  ea : ErX.ErTxt K mg "InvalidAttempt" "InvalidAttempt.__init__" "attempt" CA fA
  el : ErX.ErTxt K mg "LimitExceeded" "LimitExceeded.__init__" "limit" CL fL
/-- a call is refused with the field v of an error of the class at C -/
def Out (H : Hp) (E : XK) (C : Addr) (fl : Str) (v : V) : Prop := ∀ d H', H d = none → Same H H' → H' d = some (.xd [(fl, v)]) → E (.ref C) (some d) H'
theorem out_of {H : Hp} {E : XK} {C : Addr} {fl : Str} {v : V} (o : Out H E C fl v) : ∀ d, H d = none → E (.ref C) (some d) (upd H d (.xd [(fl, v)])) := fun d hd => o d _ hd (same_new hd) upd_same
def spChkR (K : PySem.W.Frag) (C CA CL : Addr) : Sp := fun vs H Q E => ∃ (p g t o : Addr) (gs : List Int) (tl : Tl) (x : V), vs = [.ref p, x] ∧ RuleAt C H p g t o gs tl ∧
  ((Refused K H gs tl x ∧ Out H E CA "attempt" x) ∨ (∃ n : Nat, x = .int (n : Int) ∧ (AttOk gs tl n → Q .non H) ∧ (∀ b, tl = .times b → 1000 < n → Out H E CL "limit" (.int 1000)) ∧ (tl = .fin → n ≤ gs.length)))
theorem ok_chkR {f C fi CA fA CL fL : Addr} {fd fdi : FuncData} (F : Fun K "_check_attempt" "Rule._check_attempt" s_Rule_check_attempt f fd) (T : Txt K mg C) (X : Ers K mg CA fA CL fL) (FI : Fun K "is_integer" "is_integer" s_is_integer fi fdi) (bI : Binds K fdi ["value"] []) (mI : mg "is_integer" = some (.ref fi)) :
    FnOk P w K mg base (L2.CX P w) 3 f fd ["self", "attempt"] (spChkR K C CA CL) := by
  have GI : FnOk P w K mg base CX0 1 fi fdi ["value"] (spIsAny K) := ok_isAny FI T
  obtain ⟨t1, m1⟩ := T.mLast
  refine F.okX scCheck (fun vs H Q E h => ?_) (fun cdv A outer s H vs Q E hr h => ?_)
  · obtain ⟨p, g, t, o, gs, tl, x, rfl, _⟩ := h
    rfl
  · obtain ⟨p, g, t, o, gs, tl, x, rfl, R, k⟩ := h
    have hr1 := hr.mono (show 1 ≤ 2 by decide)
    refine ⟨_, (pss_cons (ps_if (PW.pt (pw_or (pt_not (pt_val (pe_call GI hr1 rfl mI FI.kp bI .nil pass0 (pa_cons (pv 1) pa_nil)))) (pw_or1 (pt_cmpR op_lt (pv 1) pe_int (nomark _))))) (pss_one (ps_raiseEr rfl X.ea hr (takes_of rfl rfl rfl rfl) (pa_cons (pv 1) pa_nil))) pss_nil) (pss_cons (ps_if (PW.pt (pw_and (pt_cmpR op_eq (pe_ix ix_tup (pe_fld (pv 0) rfl) pe_int (fun _ _ => rfl)) pe_str (nomark _)) (pw_and1 (pt_cmpR op_ge (pv 1) (pe_callB call_len_seq (by rfl) T.len (by decide +kernel) (pa_cons (pe_fld (pv 0) rfl) pa_nil)) (nomark _))))) (pss_one (ps_raiseEr rfl X.ea hr (takes_of rfl rfl rfl rfl) (pa_cons (pv 1) pa_nil))) pss_nil) (pss_one (ps_if (PW.pt (pw_and (pt_cmpR op_eq (pe_ix ix_tup (pe_fld (pv 0) rfl) pe_int (fun _ _ => rfl)) pe_str (nomark _)) (pw_and1 (pt_cmpR op_gt (pv 1) (pe_glob (v := .int 1000) rfl m1 ⟨_, rfl⟩) (nomark _))))) (pss_one (ps_raiseEr rfl X.el hr (takes_of rfl rfl rfl rfl) (pa_cons (pe_glob (v := .int 1000) rfl m1 ⟨_, rfl⟩) pa_nil))) pss_nil)))), ?_⟩
    rcases k with ⟨hx, ko⟩ | ⟨n, rfl, kok, kl, kf⟩
    · rcases hx with hx | ⟨i, rfl, hi⟩
      · refine ⟨_, rfl, _, rfl, .inr ⟨hx, false, rfl, iteT ?_⟩⟩
        exact ⟨_, rfl, _, rfl, out_of ko⟩
      · refine ⟨_, rfl, _, rfl, .inl ⟨i, rfl, true, rfl, iteF ⟨_, rfl, _, _, rfl, rfl, _, rfl, ?_⟩⟩⟩
        by_cases h0 : i < 0
        · exact iteTb (decide_eq_true h0) ⟨_, rfl, _, rfl, out_of ko⟩
        · obtain ⟨rfl, hl⟩ := hi.resolve_left h0
          refine iteFb (decide_eq_false h0) ?_
          refine rdIs T R rfl (iteTb wEE ?_)
          refine ⟨_, rfl, rdO T R rfl ⟨o, _, rfl, .inl (SqL.of R.ho), _, _, rfl, rfl, _, rfl, iteTb (decide_eq_true ?_) ⟨_, rfl, _, rfl, out_of ko⟩⟩⟩
          rw [List.length_map, offs_len]
          omega
    · refine ⟨_, rfl, _, rfl, .inl ⟨_, rfl, true, rfl, iteF ⟨_, rfl, _, _, rfl, rfl, _, rfl, iteFb (decide_eq_false (by omega)) ?_⟩⟩⟩
      refine rdIs T R rfl ?_
      cases tl with
      | fin =>
        have hn := kf rfl
        refine iteTb wEE ?_
        refine ⟨_, rfl, rdO T R rfl ⟨o, _, rfl, .inl (SqL.of R.ho), _, _, rfl, rfl, _, rfl, iteFb (decide_eq_false ?_) ?_⟩⟩
        · rw [List.length_map, offs_len]
          omega
        · exact rdIs T R rfl (iteFb wET (iteF (kok hn)))
      | times b =>
        refine iteFb wTE (iteF ?_)
        refine rdIs T R rfl (iteTb wTT ⟨_, rfl, _, _, rfl, rfl, _, rfl, ?_⟩)
        by_cases h1 : 1000 < n
        · exact iteTb (decide_eq_true (by omega)) ⟨_, rfl, out_of (kl b rfl h1)⟩
        · exact iteFb (decide_eq_false (by omega)) (kok (by show n ≤ 1000; omega))
      | rep m =>
        refine iteFb wRE (iteF ?_)
        exact rdIs T R rfl (iteFb wRT (iteF (kok trivial)))
/-- passing on what a callee raises -/
theorem passUp {X : Cx} {E : XK} (tk : Takes X (fun cls d _ H => E cls d H)) : Passes (L2.CX X.prog X.w) X E := passes_call tk fun _ _ _ _ h => h
/-- the two ways of an attempt: refused, or a number -/
def Ways (K : PySem.W.Frag) (CA CL : Addr) (H : Hp) (E : XK) (gs : List Int) (tl : Tl) (x : V) (ok : Nat → Prop) : Prop :=
  (Refused K H gs tl x ∧ Out H E CA "attempt" x) ∨ (∃ n : Nat, x = .int (n : Int) ∧ (AttOk gs tl n → ok n) ∧ (∀ b, tl = .times b → 1000 < n → Out H E CL "limit" (.int 1000)) ∧ (tl = .fin → n ≤ gs.length))
def spOffR (K : PySem.W.Frag) (C CA CL : Addr) : Sp := fun vs H Q E => ∃ (p g t o : Addr) (gs : List Int) (tl : Tl) (x : V), vs = [.ref p, x] ∧ RuleAt C H p g t o gs tl ∧
  Ways K CA CL H E gs tl x fun n => ∀ H', Same H H' → Q (.int (off gs tl n)) H'
theorem ok_offsetR {f C fC fO CA CL : Addr} {fd fdC fdO : FuncData} (F : Fun K "offset" "Rule.offset" s_Rule_offset f fd) (T : Txt K mg C) (mC : Meth K C "_check_attempt" fC) (bC : Binds K fdC ["self", "attempt"] []) (mO : Meth K C "_offset_of" fO) (bO : Binds K fdO ["self", "attempt"] [])
    (GC : FnOk P w K mg base (L2.CX P w) 3 fC fdC ["self", "attempt"] (spChkR K C CA CL)) (GO : FnOk P w K mg base CX0 3 fO fdO ["self", "attempt"] (spOff C)) : FnOk P w K mg base (L2.CX P w) 4 f fd ["self", "attempt"] (spOffR K C CA CL) := by
  refine F.okX scOffset (fun vs H Q E h => ?_) (fun cdv A outer s H vs Q E hr h => ?_)
  · obtain ⟨p, g, t, o, gs, tl, x, rfl, _⟩ := h
    rfl
  · obtain ⟨p, g, t, o, gs, tl, x, rfl, R, k⟩ := h
    refine ⟨_, (pss_cons (ps_expr (pe_meth (E := E) (pv 0) T.cl mC GC hr bC .nil (passUp (takes_of rfl rfl rfl rfl)) (pa_cons (pv 1) pa_nil))) (pss_one (ps_ret (pe_meth (pv 0) T.cl mO GO hr bO .nil pass0 (pa_cons (pv 1) pa_nil))))), ?_⟩
    obtain ⟨dx, hob⟩ := R.ob
    refine ⟨_, rfl, p, dx, _, rfl, hob, flds_no _ _ _ (by decide +kernel) (by decide +kernel) (by decide +kernel), _, rfl, p, g, t, o, gs, tl, x, rfl, R, ?_⟩
    rcases k with k | ⟨n, rfl, kok, kl, kf⟩
    · exact .inl k
    · exact .inr ⟨n, rfl, fun ok => ⟨_, rfl, p, dx, _, rfl, hob, flds_no _ _ _ (by decide +kernel) (by decide +kernel) (by decide +kernel), _, rfl, p, g, t, o, gs, tl, n, rfl, R, ok, kok ok⟩, kl, kf⟩
def spGapR (K : PySem.W.Frag) (C CA CL : Addr) : Sp := fun vs H Q E => ∃ (p g t o : Addr) (gs : List Int) (tl : Tl) (x : V), vs = [.ref p, x] ∧ RuleAt C H p g t o gs tl ∧
  Ways K CA CL H E gs tl x fun n => (tl = .fin → n = gs.length → Out H E CA "attempt" (.int (n : Int))) ∧ ((tl = .fin → n < gs.length) → Q (.int (gapf gs tl n)) H)
theorem ok_gapR {f C fC fA fR fW CA fE CL fL : Addr} {fd fdC fdA fdR fdW : FuncData} (F : Fun K "gap" "Rule.gap" s_Rule_gap f fd) (T : Txt K mg C) (X : Ers K mg CA fE CL fL) (mC : Meth K C "_check_attempt" fC) (bC : Binds K fdC ["self", "attempt"] [])
    (GC : FnOk P w K mg base (L2.CX P w) 3 fC fdC ["self", "attempt"] (spChkR K C CA CL)) (FA : Fun K "attempts" "Rule.attempts" s_Rule_attempts fA fdA) (bA : Binds K fdA ["self"] []) (mA : Meth K C "attempts" fA)
    (FR : Fun K "first_repeating" "Rule.first_repeating" s_Rule_first_repeating fR fdR) (bR : Binds K fdR ["self"] []) (mR : Meth K C "first_repeating" fR)
    (FW : Fun K "_power" "_power" s_power fW fdW) (bW : Binds K fdW ["base", "exponent"] []) (mW : mg "_power" = some (.ref fW)) : FnOk P w K mg base (L2.CX P w) 4 f fd ["self", "attempt"] (spGapR K C CA CL) := by
  have GA : FnOk P w K mg base CX0 1 fA fdA ["self"] (spAtt C) := ok_attempts FA T
  have GR : FnOk P w K mg base CX0 1 fR fdR ["self"] (spFR C) := ok_fr FR T
  have GW : FnOk P w K mg base CX0 1 fW fdW ["base", "exponent"] spPower := ok_power FW
  refine F.okX scGap (fun vs H Q E h => ?_) (fun cdv A outer s H vs Q E hr h => ?_)
  · obtain ⟨p, g, t, o, gs, tl, x, rfl, _⟩ := h
    rfl
  · obtain ⟨p, g, t, o, gs, tl, x, rfl, R, ways⟩ := h
    have hr1 := hr.mono (show 1 ≤ 3 by decide)
    refine ⟨_, (pss_cons (ps_expr (pe_meth (E := E) (pv 0) T.cl mC GC hr bC .nil (passUp (takes_of rfl rfl rfl rfl)) (pa_cons (pv 1) pa_nil))) (pss_cons (ps_if (pt_cmpR op_eq (pe_op op_add (pv 1) pe_int) (pe_meth0 (pv 0) T.cl mA GA hr1 bA .nil pass0) (nomark _)) (pss_one (ps_raiseEr rfl X.ea hr (takes_of rfl rfl rfl rfl) (pa_cons (pv 1) pa_nil))) pss_nil) (pss_cons (ps_if (pt_cmpR op_lt (pv 1) (pe_callB call_len_seq (by rfl) T.len (by decide +kernel) (pa_cons (pe_fld (pv 0) rfl) pa_nil)) (nomark _)) (pss_one (ps_ret (pe_ix ix_list (pe_fld (pv 0) rfl) (pv 1) (fun _ _ => rfl)))) pss_nil) (pss_cons (ps_set (i := 2) scGap.nd rfl (Or.inl rfl) (pe_op op_sub (pv 1) (pe_callB call_len_seq (by rfl) T.len (by decide +kernel) (pa_cons (pe_fld (pv 0) rfl) pa_nil)))) (pss_cons (ps_if (pt_cmpR op_eq (pe_ix ix_tup (pe_fld (pv 0) rfl) pe_int (fun _ _ => rfl)) pe_str (nomark _)) (pss_one (ps_ret (pe_op op_mul (pe_ix ix_list (pe_fld (pv 0) rfl) (pe_un un_neg pe_int) (fun _ _ => rfl)) (pe_call GW hr1 rfl mW FW.kp bW .nil pass0 (pa_cons (pe_ix ix_tup (pe_fld (pv 0) rfl) pe_int (fun _ _ => rfl)) (pa_cons (pe_op op_add (pv 2) pe_int) pa_nil)))))) pss_nil) (pss_one (ps_ret (pe_ix ix_list (pe_fld (pv 0) rfl) (pe_op op_add (pe_meth0 (pv 0) T.cl mR GR hr1 bR .nil pass0) (pe_op op_mod (pv 2) (pe_ix ix_tup (pe_fld (pv 0) rfl) pe_int (fun _ _ => rfl)))) (fun _ _ => rfl))))))))), ?_⟩
    obtain ⟨dx, hob⟩ := R.ob
    have nF : (flds g t o).lookup ("first_repeating" : Str) = none := flds_no _ _ _ (by decide +kernel) (by decide +kernel) (by decide +kernel)
    have nA : (flds g t o).lookup ("attempts" : Str) = none := flds_no _ _ _ (by decide +kernel) (by decide +kernel) (by decide +kernel)
    refine ⟨_, rfl, p, dx, _, rfl, hob, flds_no _ _ _ (by decide +kernel) (by decide +kernel) (by decide +kernel), _, rfl, p, g, t, o, gs, tl, x, rfl, R, ?_⟩
    rcases ways with k | ⟨n, rfl, kok, kl, kf⟩
    · exact .inl k
    refine .inr ⟨n, rfl, fun ok => ?_, kl, kf⟩
    have k0 := kok ok
    refine ⟨_, rfl, _, _, rfl, rfl, _, rfl, p, dx, _, rfl, hob, nA, p, g, t, o, gs, tl, rfl, R, ?_⟩
    by_cases hlast : tl = .fin ∧ n = gs.length
    · obtain ⟨rfl, rfl⟩ := hlast
      refine ⟨rfl, _, rfl, iteTb (decide_eq_true rfl) ⟨_, rfl, _, rfl, out_of (k0.1 rfl rfl)⟩⟩
    have okf : tl = .fin → n < gs.length := fun e => by
      have := kf e
      have : n ≠ gs.length := fun z => hlast ⟨e, z⟩
      omega
    have k := k0.2 okf
    have hsc : scal (V.int ((n : Int) + 1)) (attV gs tl) = true := by cases tl <;> rfl
    have hne : decide (V.int ((n : Int) + 1) = attV gs tl) = false := by
      cases tl with
      | fin =>
        have := okf rfl
        refine decide_eq_false fun e => ?_
        have := V.int.inj e
        omega
      | times b => exact decide_eq_false fun e => by cases e
      | rep m => exact decide_eq_false fun e => by cases e
    refine ⟨hsc, _, rfl, iteFb hne ?_⟩
    refine ⟨_, rfl, rdG T R rfl ⟨g, _, rfl, .inl (SqL.of R.hg), _, _, rfl, rfl, _, rfl, ?_⟩⟩
    rw [List.length_map]
    by_cases hn : n < gs.length
    · refine iteTb (decide_eq_true (by omega)) ?_
      refine rdGx T R rfl ⟨_, rfl, g, _, _, _, rfl, rfl, SqL.of R.hg, at_map (getD_get hn), ?_⟩
      have e : gapf gs tl n = gs.getD n 0 := if_pos hn
      rw [← e]
      exact k
    · refine end_cmp (by omega) ?_
      refine ⟨_, rfl, ?_⟩
      refine rdG T R rfl ⟨g, _, rfl, .inl (SqL.of R.hg), _, _, rfl, rfl, ?_⟩
      have ef : ((n : Int) - (((gs.map V.int).length : Nat) : Int)) = ((n - gs.length : Nat) : Int) := by
        rw [List.length_map]
        omega
      show tSeq _ _ _ (List.set _ 2 (some (V.int ((n : Int) - (((gs.map V.int).length : Nat) : Int))))) H
      rw [ef]
      refine rdIs T R rfl ?_
      cases tl with
      | fin => exact absurd (okf rfl) hn
      | times b =>
        have hl := R.okT.1
        have hb0 := R.okT.2.1
        have hb1 := R.okT.2.2
        have hn1 : n ≤ 1000 := ok
        have hg := gap_bd R.okG (k := gs.length - 1) (by omega)
        have hg : 1 ≤ lastG gs ∧ lastG gs ≤ 1000000000000 := hg
        refine iteTb wTT ?_
        refine rdLast T R rfl hl ?_
        refine rdB T R rfl ⟨_, rfl, _, _, rfl, rfl, b, n - gs.length + 1, ?_, by omega, by omega, by omega, _, _, rfl, rfl, .inl ⟨by omega, by omega⟩, ?_⟩
        · rfl
        · have e : gapf gs (.times b) n = lastG gs * b ^ (n - gs.length + 1) := if_neg hn
          rw [e] at k
          exact k
      | rep m =>
        have hm0 := R.okT.1
        have hm1 := R.okT.2
        have hr0 : (n - gs.length) % m < m := Nat.mod_lt _ (by omega)
        refine iteFb wRT ?_
        refine rdGx T R rfl ⟨_, rfl, p, dx, _, rfl, hob, nF, p, g, t, o, gs, m, rfl, R, _, rfl, ?_⟩
        refine rdN T R rfl ⟨_, _, rfl, rfl, by omega, _, _, rfl, rfl, ?_⟩
        refine ⟨g, _, _, .int (gs.getD (gs.length - m + (n - gs.length) % m) 0), rfl, rfl, SqL.of R.hg, ?_, ?_⟩
        · rw [← Int.natCast_emod, ← Int.natCast_add]
          exact at_map (getD_get (by omega))
        · have e : gapf gs (.rep m) n = gs.getD (gs.length - m + (n - gs.length) % m) 0 := if_neg hn
          rw [e] at k
          exact k
end
end RS
namespace RS
open PySem L2
section
variable {P : Program} {w : World} {K : PySem.W.Frag} {mg : Str → Option Value} {base : Heap}
/-! ### distances that are refused -/
def WaysD (K : PySem.W.Frag) (CS : Addr) (H : Hp) (E : XK) (gs : List Int) (tl : Tl) (x : V) (ok : Int → Prop) : Prop := (OddV K H x ∧ Out H E CS "slot" x) ∨ ∃ d, x = .int d ∧ HD gs tl d ∧ ok d
def spFFR (K : PySem.W.Frag) (C CS : Addr) : Sp := fun vs H Q E => ∃ (p g t o : Addr) (gs : List Int) (tl : Tl) (x : V), vs = [.ref p, x] ∧ RuleAt C H p g t o gs tl ∧ WaysD K CS H E gs tl x fun d => ∀ r H', Same H H' → FF gs tl d r → Q r H'
theorem ok_ffR {f C fi fL fG fW CS fE : Addr} {fd fdi fdL fdG fdW : FuncData} (F : Fun K "first_from" "Rule.first_from" s_Rule_first_from f fd) (T : Txt K mg C) (X : ErX.ErTxt K mg "InvalidSlot" "InvalidSlot.__init__" "slot" CS fE) (FI : Fun K "is_integer" "is_integer" s_is_integer fi fdi) (bI : Binds K fdi ["value"] []) (mI : mg "is_integer" = some (.ref fi))
    (FL : Fun K "_first_at_least" "_first_at_least" s_first_at_least fL fdL) (bL : Binds K fdL ["offsets", "distance"] []) (mL : mg "_first_at_least" = some (.ref fL))
    (GG : FnOk P w K mg base CX0 4 fG fdG ["self", "distance"] (spFg C)) (bG : Binds K fdG ["self", "distance"] []) (mG : Meth K C "_first_growing" fG)
    (GW : FnOk P w K mg base CX0 3 fW fdW ["self", "distance"] (spFrp C)) (bW : Binds K fdW ["self", "distance"] []) (mW : Meth K C "_first_repeated" fW) : FnOk P w K mg base (L2.CX P w) 5 f fd ["self", "distance"] (spFFR K C CS) := by
  have GI : FnOk P w K mg base CX0 1 fi fdi ["value"] (spIsAny K) := ok_isAny FI T
  have GL : FnOk P w K mg base CX0 1 fL fdL ["offsets", "distance"] spFal := ok_fal FL
  refine F.okX scFF (fun vs H Q E h => ?_) (fun cdv A outer s H vs Q E hr h => ?_)
  · obtain ⟨p, g, t, o, gs, tl, x, rfl, _⟩ := h
    rfl
  · obtain ⟨p, g, t, o, gs, tl, x, rfl, R, ways⟩ := h
    have hr1 := hr.mono (show 1 ≤ 4 by decide)
    refine ⟨_, (pss_cons (ps_if (pt_not (pt_val (pe_call GI hr1 rfl mI FI.kp bI .nil pass0 (pa_cons (pv 1) pa_nil)))) (pss_one (ps_raiseEr rfl X hr (takes_of rfl rfl rfl rfl) (pa_cons (pv 1) pa_nil))) pss_nil) (pss_cons (ps_if (pt_cmpR op_le (pv 1) (pe_ix ix_list (pe_fld (pv 0) rfl) (pe_un un_neg pe_int) (fun _ _ => rfl)) (nomark _)) (pss_one (ps_ret (pe_call GL hr1 rfl mL FL.kp bL .nil pass0 (pa_cons (pe_fld (pv 0) rfl) (pa_cons (pv 1) pa_nil))))) pss_nil) (pss_cons (ps_if (pt_cmpR op_eq (pe_ix ix_tup (pe_fld (pv 0) rfl) pe_int (fun _ _ => rfl)) pe_str (nomark _)) (pss_one (ps_ret pe_non)) pss_nil) (pss_cons (ps_if (pt_cmpR op_eq (pe_ix ix_tup (pe_fld (pv 0) rfl) pe_int (fun _ _ => rfl)) pe_str (nomark _)) (pss_one (ps_ret (pe_meth (pv 0) T.cl mG GG hr bG .nil pass0 (pa_cons (pv 1) pa_nil)))) pss_nil) (pss_one (ps_ret (pe_meth (pv 0) T.cl mW GW (hr.mono (by decide)) bW .nil pass0 (pa_cons (pv 1) pa_nil)))))))), ?_⟩
    obtain ⟨dx, hob⟩ := R.ob
    rcases ways with ⟨hx, ko⟩ | ⟨d, rfl, hd, k⟩
    · exact ⟨_, rfl, _, rfl, .inr ⟨hx, false, rfl, iteT ⟨_, rfl, _, rfl, out_of ko⟩⟩⟩
    refine ⟨_, rfl, _, rfl, .inl ⟨d, rfl, true, rfl, iteF ?_⟩⟩
    refine ⟨_, rfl, ?_⟩
    refine rdLastO T R rfl ⟨_, _, rfl, rfl, _, rfl, ?_⟩
    by_cases hle : d ≤ pre gs gs.length
    · refine iteTb (decide_eq_true hle) ?_
      refine rdOc T R rfl ⟨_, rfl, o, offs gs, d, gs.length, rfl, R.ho, by rw [offs_len]; omega, by rw [offsD (Nat.le_refl _)]; exact hle, fun n hn hdn hall => ?_⟩
      rw [offsD hn] at hdn
      refine k _ H (Same.refl H) (.inr ⟨n, rfl, AttOk.low R.okG hn, by rw [off_low hn]; exact hdn, fun h0 => ?_⟩)
      have := hall (n - 1) (by omega)
      rw [offsD (by omega)] at this
      rw [off_low (by omega)]
      exact this
    · refine iteFb (decide_eq_false hle) ?_
      refine rdIs T R rfl ?_
      cases tl with
      | fin =>
        refine iteTb wEE ?_
        exact k _ H (Same.refl H) (.inl ⟨rfl, rfl, by omega⟩)
      | times b =>
        refine iteFb wTE ?_
        refine rdIs T R rfl ?_
        refine iteTb wTT ?_
        exact ⟨_, rfl, p, dx, _, rfl, hob, flds_no _ _ _ (by decide +kernel) (by decide +kernel) (by decide +kernel), _, rfl, p, g, t, o, gs, b, d, rfl, R, by omega, hd, k⟩
      | rep m =>
        refine iteFb wRE ?_
        refine rdIs T R rfl ?_
        refine iteFb wRT ?_
        exact ⟨_, rfl, p, dx, _, rfl, hob, flds_no _ _ _ (by decide +kernel) (by decide +kernel) (by decide +kernel), _, rfl, p, g, t, o, gs, m, d, rfl, R, by omega, hd, k⟩
def spAAR (K : PySem.W.Frag) (C CS : Addr) : Sp := fun vs H Q E => ∃ (p g t o : Addr) (gs : List Int) (tl : Tl) (x : V), vs = [.ref p, x] ∧ RuleAt C H p g t o gs tl ∧ WaysD K CS H E gs tl x fun d => ∀ r H', Same H H' → AA gs tl d r → Q r H'
theorem ok_aaR {f C fF fO CS : Addr} {fd fdF fdO : FuncData} (F : Fun K "attempt_at" "Rule.attempt_at" s_Rule_attempt_at f fd) (T : Txt K mg C) (GF : FnOk P w K mg base (L2.CX P w) 5 fF fdF ["self", "distance"] (spFFR K C CS)) (bF : Binds K fdF ["self", "distance"] []) (mF : Meth K C "first_from" fF)
    (GO : FnOk P w K mg base CX0 3 fO fdO ["self", "attempt"] (spOff C)) (bO : Binds K fdO ["self", "attempt"] []) (mO : Meth K C "_offset_of" fO) : FnOk P w K mg base (L2.CX P w) 6 f fd ["self", "distance"] (spAAR K C CS) := by
  refine F.okX scAA (fun vs H Q E h => ?_) (fun cdv A outer s H vs Q E hr h => ?_)
  · obtain ⟨p, g, t, o, gs, tl, x, rfl, _⟩ := h
    rfl
  · obtain ⟨p, g, t, o, gs, tl, x, rfl, R, ways⟩ := h
    refine ⟨_, (pss_cons (ps_set (i := 2) scAA.nd rfl (Or.inl rfl) (pe_meth (E := E) (pv 0) T.cl mF GF hr bF .nil (passUp (takes_of rfl rfl rfl rfl)) (pa_cons (pv 1) pa_nil))) (pss_cons (ps_if (PW.pt (pw_or (pt_cmpR op_isN (pv 2) pe_non (nomark _)) (pw_or1 (pt_cmpR op_ne (pe_meth (pv 0) T.cl mO GO (hr.mono (by decide)) bO .nil pass0 (pa_cons (pv 2) pa_nil)) (pv 1) (nomark _))))) (pss_one (ps_ret pe_non)) pss_nil) (pss_one (ps_ret (pv 2))))), ?_⟩
    obtain ⟨dx, hob⟩ := R.ob
    refine ⟨_, rfl, p, dx, _, rfl, hob, flds_no _ _ _ (by decide +kernel) (by decide +kernel) (by decide +kernel), _, rfl, p, g, t, o, gs, tl, x, rfl, R, ?_⟩
    rcases ways with k | ⟨d, rfl, hd, k⟩
    · exact .inl k
    refine .inr ⟨d, rfl, hd, fun r H1 S1 hf => ?_⟩
    refine ⟨_, rfl, rfl, _, rfl, ?_⟩
    rcases id hf with ⟨rfl, _⟩ | ⟨n, rfl, hn, _⟩
    · refine iteTb (decide_eq_true rfl) ?_
      refine iteT ?_
      exact k _ H1 S1 ⟨_, hf, .inr ⟨(fun n e => nomatch e), rfl⟩⟩
    · refine iteFb (decide_eq_false fun e => nomatch e) ?_
      obtain ⟨dx1, hob1⟩ := (R.mono S1).ob
      refine ⟨_, rfl, p, dx1, _, rfl, hob1, flds_no _ _ _ (by decide +kernel) (by decide +kernel) (by decide +kernel), _, rfl, p, g, t, o, gs, tl, n, rfl, R.mono S1, hn, fun H2 S2 => ?_⟩
      refine ⟨_, rfl, rfl, _, rfl, ?_⟩
      by_cases e : off gs tl n = d
      · refine iteFb (by rw [e]; show (!decide (V.int d = V.int d)) = false; rw [decide_eq_true rfl]; rfl) ?_
        exact ⟨_, rfl, k _ H2 (S1.trans S2) ⟨_, hf, .inl ⟨n, rfl, e, rfl⟩⟩⟩
      · refine iteTb (by show (!decide (V.int _ = V.int d)) = true; rw [decide_eq_false fun z => e (V.int.inj z)]; rfl) ?_
        exact k _ H2 (S1.trans S2) ⟨_, hf, .inr ⟨fun m em => by have := V.int.inj em; rw [← show n = m by omega]; exact e, rfl⟩⟩
end
end RS
namespace RS
open PySem L2
section
variable {P : Program} {w : World} {K : PySem.W.Frag} {mg : Str → Option Value} {base : Heap}
/-! ### checks of arguments -/
def spCkS (K : PySem.W.Frag) (CS : Addr) : Sp := fun vs H Q E => ∃ x, vs = [x] ∧ ((OddV K H x ∧ Out H E CS "slot" x) ∨ ∃ i, x = .int i ∧ Q .non H)
theorem scCkS : FnScope ["slot"] ["slot"] (defScope s_check_slot) := ⟨rfl, rfl, rfl, by decide +kernel, rfl, by decide +kernel, by decide +kernel⟩
theorem ok_ckS {f C CS fE fI : Addr} {fd fdI : FuncData} (F : Fun K "check_slot" "check_slot" s_check_slot f fd) (T : Txt K mg C) (X : ErX.ErTxt K mg "InvalidSlot" "InvalidSlot.__init__" "slot" CS fE)
    (GI : FnOk P w K mg base CX0 1 fI fdI ["value"] (spIsAny K)) (bI : Binds K fdI ["value"] []) (mI : mg "is_integer" = some (.ref fI)) (kI : PySem.W.keepIn K (.ref fI) = true) : FnOk P w K mg base (L2.CX P w) 3 f fd ["slot"] (spCkS K CS) := by
  refine F.okX scCkS (fun vs H Q E h => ?_) (fun cdv A outer s H vs Q E hr h => ?_)
  · obtain ⟨x, rfl, _⟩ := h
    rfl
  · obtain ⟨x, rfl, k⟩ := h
    have hr1 := hr.mono (show 1 ≤ 2 by decide)
    refine ⟨_, (pss_one (ps_if (pt_not (pt_val (pe_call GI hr1 rfl mI kI bI .nil pass0 (pa_cons (pv 0) pa_nil)))) (pss_one (ps_raiseEr rfl X hr (takes_of rfl rfl rfl rfl) (pa_cons (pv 0) pa_nil))) pss_nil)), ?_⟩
    rcases k with ⟨ho, out⟩ | ⟨i, rfl, k⟩
    · exact ⟨_, rfl, _, rfl, .inr ⟨ho, false, rfl, iteT ⟨_, rfl, _, rfl, out_of out⟩⟩⟩
    · exact ⟨_, rfl, _, rfl, .inl ⟨i, rfl, true, rfl, iteF k⟩⟩
/-- what is no client of so many -/
def BadCl (K : PySem.W.Frag) (H : Hp) (m : Nat) (x : V) : Prop := OddV K H x ∨ ∃ i, x = .int i ∧ (i < 0 ∨ (m : Int) ≤ i)
def spCkC (K : PySem.W.Frag) (CC : Addr) : Sp := fun vs H Q E => ∃ (x : V) (m : Nat), vs = [x, .int (m : Int)] ∧ ((BadCl K H m x ∧ Out H E CC "client" x) ∨ ∃ k : Nat, x = .int (k : Int) ∧ k < m ∧ Q .non H)
theorem scCkC : FnScope ["client", "many"] ["client", "many"] (defScope s_check_client) := ⟨rfl, rfl, rfl, by decide +kernel, rfl, by decide +kernel, by decide +kernel⟩
theorem ok_ckC {f C CC fE fI : Addr} {fd fdI : FuncData} (F : Fun K "check_client" "check_client" s_check_client f fd) (T : Txt K mg C) (X : ErX.ErTxt K mg "InvalidClient" "InvalidClient.__init__" "client" CC fE)
    (GI : FnOk P w K mg base CX0 1 fI fdI ["value"] (spIsAny K)) (bI : Binds K fdI ["value"] []) (mI : mg "is_integer" = some (.ref fI)) (kI : PySem.W.keepIn K (.ref fI) = true) : FnOk P w K mg base (L2.CX P w) 3 f fd ["client", "many"] (spCkC K CC) := by
  refine F.okX scCkC (fun vs H Q E h => ?_) (fun cdv A outer s H vs Q E hr h => ?_)
  · obtain ⟨x, m, rfl, _⟩ := h
    rfl
  · obtain ⟨x, m, rfl, k⟩ := h
    have hr1 := hr.mono (show 1 ≤ 2 by decide)
    refine ⟨_, (pss_one (ps_if (PW.pt (pw_or (pt_not (pt_val (pe_call GI hr1 rfl mI kI bI .nil pass0 (pa_cons (pv 0) pa_nil)))) (pw_or1 (pt_not (pt_chain op_le op_lt pe_int (pv 0) (pv 1)))))) (pss_one (ps_raiseEr rfl X hr (takes_of rfl rfl rfl rfl) (pa_cons (pv 0) pa_nil))) pss_nil)), ?_⟩
    rcases k with ⟨hb | ⟨i, rfl, hi⟩, out⟩ | ⟨j, rfl, hj, k⟩
    · exact ⟨_, rfl, _, rfl, .inr ⟨hb, false, rfl, iteT ⟨_, rfl, _, rfl, out_of out⟩⟩⟩
    · refine ⟨_, rfl, _, rfl, .inl ⟨i, rfl, true, rfl, iteF ?_⟩⟩
      refine ⟨_, rfl, _, _, rfl, rfl, _, rfl, ?_⟩
      by_cases h0 : 0 ≤ i
      · refine iteTb (decide_eq_true h0) ⟨_, rfl, _, _, rfl, rfl, _, rfl, iteTb ?_ ⟨_, rfl, _, rfl, out_of out⟩⟩
        rw [decide_eq_false (by omega)]
        rfl
      · refine iteFb (decide_eq_false h0) ⟨_, rfl, iteTb ?_ ⟨_, rfl, _, rfl, out_of out⟩⟩
        rfl
    · refine ⟨_, rfl, _, rfl, .inl ⟨_, rfl, true, rfl, iteF ?_⟩⟩
      refine ⟨_, rfl, _, _, rfl, rfl, _, rfl, iteTb (decide_eq_true (by omega)) ⟨_, rfl, _, _, rfl, rfl, _, rfl, iteFb ?_ k⟩⟩
      rw [decide_eq_true (by omega)]
      rfl
/-! ### a scene's attributes, read -/
section
variable {C CS a p r g t o s wl : Addr} {gs : List Int} {tl : Tl} {bs : List Int} {rs : List V} {ws : List (Int × Int)} {n : Int} {H : Hp} {σ : L2.St} {i : Nat}
theorem srdF {Q : VK} {fl : Str} {v : V} (TS : TxtS K mg CS) (S : SceneAt C CS a H p r g t o s wl gs tl bs rs ws n) (hi : σ[i]? = some (some (.ref p))) (nA : NoAttr K CS fl) (lk : (sflds r s wl n).lookup fl = some v) (q : Q v H) : tFld K (tVar i) fl σ H Q := by
  obtain ⟨dx, h⟩ := S.ob
  exact ⟨_, hi, p, CS, dx, _, _, rfl, h, TS.cl, nA, lk, q⟩
theorem srdS {Q : VK} (TS : TxtS K mg CS) (S : SceneAt C CS a H p r g t o s wl gs tl bs rs ws n) (hi : σ[i]? = some (some (.ref p))) (q : Q (.ref s) H) : tFld K (tVar i) "_starts" σ H Q := srdF TS S hi TS.nS (sflds_s _ _ _ _) q
theorem srdR {Q : VK} (TS : TxtS K mg CS) (S : SceneAt C CS a H p r g t o s wl gs tl bs rs ws n) (hi : σ[i]? = some (some (.ref p))) (q : Q (.ref r) H) : tFld K (tVar i) "_rule" σ H Q := srdF TS S hi TS.nR (sflds_r _ _ _ _) q
theorem srdW {Q : VK} (TS : TxtS K mg CS) (S : SceneAt C CS a H p r g t o s wl gs tl bs rs ws n) (hi : σ[i]? = some (some (.ref p))) (q : Q (.ref wl) H) : tFld K (tVar i) "_outages" σ H Q := srdF TS S hi TS.nW (sflds_w _ _ _ _) q
theorem srdSx {te : TE} {Q : VK} (TS : TxtS K mg CS) (S : SceneAt C CS a H p r g t o s wl gs tl bs rs ws n) (hi : σ[i]? = some (some (.ref p))) (q : te σ H fun y H2 => rIxL K (.ref s) y H2 Q) : tOp (rIxL K) (tFld K (tVar i) "_starts") te σ H Q := by
  dsimp only [tOp]
  exact srdS TS S hi q
end
/-! ### slot_of, attempt_in, outage_at -/
def spSlot (K : PySem.W.Frag) (C CS CA CL CC : Addr) : Sp := fun vs H Q E => ∃ (a p r g t o s wl : Addr) (gs : List Int) (tl : Tl) (bs : List Int) (rs : List V) (ws : List (Int × Int)) (n : Int) (c x : V), vs = [.ref p, c, x] ∧ SceneAt C CS a H p r g t o s wl gs tl bs rs ws n ∧
  ((BadCl K H bs.length c ∧ Out H E CC "client" c) ∨ ∃ k : Nat, c = .int (k : Int) ∧ k < bs.length ∧ Ways K CA CL H E gs tl x fun m => ∀ H', Same H H' → Q (.int (bs.getD k 0 + off gs tl m)) H')
theorem scSlot : FnScope ["self", "client", "attempt"] ["self", "client", "attempt"] (defScope s_Scene_slot_of) := ⟨rfl, rfl, rfl, by decide +kernel, rfl, by decide +kernel, by decide +kernel⟩
theorem ok_slot {f C CS CA CL CC fO fC : Addr} {fd fdO fdC : FuncData} (F : Fun K "slot_of" "Scene.slot_of" s_Scene_slot_of f fd) (T : Txt K mg C) (TS : TxtS K mg CS)
    (GO : FnOk P w K mg base (L2.CX P w) 4 fO fdO ["self", "attempt"] (spOffR K C CA CL)) (bO : Binds K fdO ["self", "attempt"] []) (mO : Meth K C "offset" fO)
    (GC : FnOk P w K mg base (L2.CX P w) 3 fC fdC ["client", "many"] (spCkC K CC)) (bC : Binds K fdC ["client", "many"] []) (mC : mg "check_client" = some (.ref fC)) (kC : PySem.W.keepIn K (.ref fC) = true) :
    FnOk P w K mg base (L2.CX P w) 5 f fd ["self", "client", "attempt"] (spSlot K C CS CA CL CC) := by
  refine F.okX scSlot (fun vs H Q E h => ?_) (fun cdv A outer s H vs Q E hr h => ?_)
  · obtain ⟨a, p, r, g, t, o, s, wl, gs, tl, bs, rs, ws, n, c, x, rfl, _⟩ := h
    rfl
  · obtain ⟨a, p, r, g, t, o, sl, wl, gs, tl, bs, rs, ws, n, c, x, rfl, S, k⟩ := h
    have hr3 := hr.mono (show 3 ≤ 4 by decide)
    refine ⟨_, (pss_cons (ps_expr (pe_call (E := E) GC hr3 rfl mC kC bC .nil (passUp (takes_of rfl rfl rfl rfl)) (pa_cons (pv 1) (pa_cons (pe_callB call_len_seq (by rfl) T.len (by decide +kernel) (pa_cons (pe_fld (pv 0) rfl) pa_nil)) pa_nil)))) (pss_one (ps_ret (pe_op op_add (pe_ix ix_list (pe_fld (pv 0) rfl) (pv 1) (fun _ _ => rfl)) (pe_meth (E := E) (pe_fld (pv 0) rfl) T.cl mO GO hr bO .nil (passUp (takes_of rfl rfl rfl rfl)) (pa_cons (pv 2) pa_nil)))))), ?_⟩
    refine ⟨_, rfl, ?_⟩
    refine srdS TS S rfl ⟨sl, _, rfl, .inl (SqL.of S.hs), c, bs.length, ?_, ?_⟩
    · rw [List.length_map]
      rfl
    rcases k with ⟨hb, out⟩ | ⟨j, rfl, hj, k⟩
    · exact .inl ⟨hb, out⟩
    refine .inr ⟨j, rfl, hj, ?_⟩
    refine srdSx TS S rfl ⟨_, rfl, sl, _, _, _, rfl, rfl, SqL.of S.hs, at_map (getD_get hj), ?_⟩
    refine srdR TS S rfl ?_
    obtain ⟨dxr, hobr⟩ := S.R.ob
    refine ⟨r, dxr, _, rfl, hobr, flds_no _ _ _ (by decide +kernel) (by decide +kernel) (by decide +kernel), _, rfl, r, g, t, o, gs, tl, x, rfl, S.R, ?_⟩
    rcases k with k | ⟨m, rfl, kok, kl, kf⟩
    · exact .inl k
    · exact .inr ⟨m, rfl, fun ok H' S' => ⟨_, _, rfl, rfl, kok ok H' S'⟩, kl, kf⟩
def spAin (K : PySem.W.Frag) (C CS CSl CC : Addr) : Sp := fun vs H Q E => ∃ (a p r g t o s wl : Addr) (gs : List Int) (tl : Tl) (bs : List Int) (rs : List V) (ws : List (Int × Int)) (n : Int) (c x : V), vs = [.ref p, c, x] ∧ SceneAt C CS a H p r g t o s wl gs tl bs rs ws n ∧
  ((BadCl K H bs.length c ∧ Out H E CC "client" c) ∨ ∃ k : Nat, c = .int (k : Int) ∧ k < bs.length ∧ ((OddV K H x ∧ Out H E CSl "slot" x) ∨ ∃ i, x = .int i ∧ HD gs tl (i - bs.getD k 0) ∧ ∀ v H', Same H H' → AA gs tl (i - bs.getD k 0) v → Q v H'))
theorem scAin : FnScope ["self", "client", "slot"] ["self", "client", "slot"] (defScope s_Scene_attempt_in) := ⟨rfl, rfl, rfl, by decide +kernel, rfl, by decide +kernel, by decide +kernel⟩
theorem ok_ain {f C CS CSl CC fA fC fS : Addr} {fd fdA fdC fdS : FuncData} (F : Fun K "attempt_in" "Scene.attempt_in" s_Scene_attempt_in f fd) (T : Txt K mg C) (TS : TxtS K mg CS)
    (GA : FnOk P w K mg base (L2.CX P w) 6 fA fdA ["self", "distance"] (spAAR K C CSl)) (bA : Binds K fdA ["self", "distance"] []) (mA : Meth K C "attempt_at" fA)
    (GC : FnOk P w K mg base (L2.CX P w) 3 fC fdC ["client", "many"] (spCkC K CC)) (bC : Binds K fdC ["client", "many"] []) (mC : mg "check_client" = some (.ref fC)) (kC : PySem.W.keepIn K (.ref fC) = true)
    (GS : FnOk P w K mg base (L2.CX P w) 3 fS fdS ["slot"] (spCkS K CSl)) (bS : Binds K fdS ["slot"] []) (mS : mg "check_slot" = some (.ref fS)) (kS : PySem.W.keepIn K (.ref fS) = true) :
    FnOk P w K mg base (L2.CX P w) 7 f fd ["self", "client", "slot"] (spAin K C CS CSl CC) := by
  refine F.okX scAin (fun vs H Q E h => ?_) (fun cdv A outer s H vs Q E hr h => ?_)
  · obtain ⟨a, p, r, g, t, o, s, wl, gs, tl, bs, rs, ws, n, c, x, rfl, _⟩ := h
    rfl
  · obtain ⟨a, p, r, g, t, o, sl, wl, gs, tl, bs, rs, ws, n, c, x, rfl, S, k⟩ := h
    have hr3 := hr.mono (show 3 ≤ 6 by decide)
    refine ⟨_, (pss_cons (ps_expr (pe_call (E := E) GC hr3 rfl mC kC bC .nil (passUp (takes_of rfl rfl rfl rfl)) (pa_cons (pv 1) (pa_cons (pe_callB call_len_seq (by rfl) T.len (by decide +kernel) (pa_cons (pe_fld (pv 0) rfl) pa_nil)) pa_nil)))) (pss_cons (ps_expr (pe_call (E := E) GS hr3 rfl mS kS bS .nil (passUp (takes_of rfl rfl rfl rfl)) (pa_cons (pv 2) pa_nil))) (pss_one (ps_ret (pe_meth (E := E) (pe_fld (pv 0) rfl) T.cl mA GA hr bA .nil (passUp (takes_of rfl rfl rfl rfl)) (pa_cons (pe_op op_sub (pv 2) (pe_ix ix_list (pe_fld (pv 0) rfl) (pv 1) (fun _ _ => rfl))) pa_nil)))))), ?_⟩
    refine ⟨_, rfl, ?_⟩
    refine srdS TS S rfl ⟨sl, _, rfl, .inl (SqL.of S.hs), c, bs.length, ?_, ?_⟩
    · rw [List.length_map]
      rfl
    rcases k with ⟨hb, out⟩ | ⟨j, rfl, hj, k⟩
    · exact .inl ⟨hb, out⟩
    refine .inr ⟨j, rfl, hj, ?_⟩
    refine ⟨_, rfl, x, rfl, ?_⟩
    rcases k with ⟨ho, out⟩ | ⟨i, rfl, hd, k⟩
    · exact .inl ⟨ho, out⟩
    refine .inr ⟨i, rfl, ?_⟩
    dsimp only [tRet, tMeth]
    refine srdR TS S rfl ?_
    obtain ⟨dxr, hobr⟩ := S.R.ob
    refine ⟨r, dxr, _, rfl, hobr, flds_no _ _ _ (by decide +kernel) (by decide +kernel) (by decide +kernel), _, rfl, ?_⟩
    refine srdSx TS S rfl ⟨_, rfl, sl, _, _, _, rfl, rfl, SqL.of S.hs, at_map (getD_get hj), ?_⟩
    exact ⟨_, _, rfl, rfl, r, g, t, o, gs, tl, _, rfl, S.R, .inr ⟨_, rfl, hd, fun v H' S' aa => k v H' S' aa⟩⟩
/-- the window that holds a slot -/
def outV : Nat → List (Int × Int) → Int → V
  | _, [], _ => .non
  | i, (f, e) :: r, x => if f ≤ x ∧ x < e then .int (i : Nat) else outV (i + 1) r x
theorem outV_hit {x : Int} : ∀ {ws : List (Int × Int)} {i j : Nat} {f e : Int}, ws[j]? = some (f, e) → f ≤ x ∧ x < e → (∀ (m : Nat) (f e : Int), m < j → ws[m]? = some (f, e) → ¬ (f ≤ x ∧ x < e)) → outV i ws x = .int ((i + j : Nat) : Int)
  | [], _, _, _, _, h, _, _ => by simp at h
  | (f0, e0) :: r, i, j, f, e, h, hx, hm => by
    cases j with
    | zero =>
      have h : some (f0, e0) = some (f, e) := h
      cases h
      exact if_pos hx
    | succ j =>
      have h0 := hm 0 f0 e0 (by omega) rfl
      show (if f0 ≤ x ∧ x < e0 then V.int (i : Nat) else outV (i + 1) r x) = _
      rw [if_neg h0, outV_hit (ws := r) (j := j) (by simpa using h) hx (fun m f e h1 h2 => hm (m + 1) f e (by omega) (by simpa using h2)), show i + 1 + j = i + (j + 1) by omega]
theorem outV_miss {x : Int} : ∀ {ws : List (Int × Int)} {i : Nat}, (∀ (m : Nat) (f e : Int), ws[m]? = some (f, e) → ¬ (f ≤ x ∧ x < e)) → outV i ws x = .non
  | [], _, _ => rfl
  | (f0, e0) :: r, i, hm => by
    show (if f0 ≤ x ∧ x < e0 then V.int (i : Nat) else outV (i + 1) r x) = _
    rw [if_neg (hm 0 f0 e0 rfl), outV_miss (fun m f e h => hm (m + 1) f e (by simpa using h))]
def spOut (K : PySem.W.Frag) (C CS CSl : Addr) : Sp := fun vs H Q E => ∃ (a p r g t o s wl : Addr) (gs : List Int) (tl : Tl) (bs : List Int) (rs : List V) (ws : List (Int × Int)) (n : Int) (x : V), vs = [.ref p, x] ∧ SceneAt C CS a H p r g t o s wl gs tl bs rs ws n ∧
  ((OddV K H x ∧ Out H E CSl "slot" x) ∨ ∃ i, x = .int i ∧ ∀ H', Same H H' → Q (outV 0 ws i) H')
theorem scOut : FnScope ["self", "slot", "at", "first", "after"] ["self", "slot"] (defScope s_Scene_outage_at) := ⟨rfl, rfl, rfl, by decide +kernel, rfl, by decide +kernel, by decide +kernel⟩
theorem ok_out {f C CS CSl fS : Addr} {fd fdS : FuncData} (F : Fun K "outage_at" "Scene.outage_at" s_Scene_outage_at f fd) (T : Txt K mg C) (TS : TxtS K mg CS)
    (GS : FnOk P w K mg base (L2.CX P w) 3 fS fdS ["slot"] (spCkS K CSl)) (bS : Binds K fdS ["slot"] []) (mS : mg "check_slot" = some (.ref fS)) (kS : PySem.W.keepIn K (.ref fS) = true) :
    FnOk P w K mg base (L2.CX P w) 4 f fd ["self", "slot"] (spOut K C CS CSl) := by
  refine F.okX scOut (fun vs H Q E h => ?_) (fun cdv A outer s H vs Q E hr h => ?_)
  · obtain ⟨a, p, r, g, t, o, s, wl, gs, tl, bs, rs, ws, n, x, rfl, _⟩ := h
    rfl
  · obtain ⟨a, p, r, g, t, o, sl, wl, gs, tl, bs, rs, ws, n, x, rfl, S, k⟩ := h
    refine ⟨_, (pss_cons (ps_expr (pe_call (E := E) GS hr rfl mS kS bS .nil (passUp (takes_of rfl rfl rfl rfl)) (pa_cons (pv 1) pa_nil))) (pss_cons (ps_for (passes_of rfl) rfl (pi_enum (by rfl) TS.enum (pa_cons (pe_fld (pv 0) rfl) pa_nil)) (pg_tup rfl (pgs_cons (pg_name (i := 2) scOut.nd rfl (Or.inl rfl)) (pgs_cons (pg_tup rfl (pgs_cons (pg_name (i := 3) scOut.nd rfl (Or.inl rfl)) (pgs_cons (pg_name (i := 4) scOut.nd rfl (Or.inl rfl)) pgs_nil))) pgs_nil)))
        (pss_one (ps_if (pt_chain op_le op_lt (pv 3) (pv 1) (pv 4)) (pss_one (ps_ret (pv 2))) pss_nil))) (pss_one (ps_ret pe_non)))), ?_⟩
    refine ⟨_, rfl, x, rfl, ?_⟩
    rcases k with ⟨ho, out⟩ | ⟨i, rfl, k⟩
    · exact .inl ⟨ho, out⟩
    refine .inr ⟨i, rfl, ?_⟩
    refine srdW TS S rfl ⟨wl, _, rfl, SqL.of S.hw, for_it (walk_enum (a := wl) (xs := rs)) (fun m σ H' => (∃ v2 v3 v4, σ = [some (.ref p), some (.int i), v2, v3, v4]) ∧ Same H H' ∧ ∀ j f e, j < m → ws[j]? = some (f, e) → ¬ (f ≤ i ∧ i < e)) ⟨⟨_, _, _, rfl⟩, Same.refl H, fun j f e hj => absurd hj (by omega)⟩ (fun m σ H' _ p => SqL.of (p.2.1 _ _ S.hw)) ?_ ?_⟩
    · rintro m y σ H1 H2 hm ⟨⟨v2, v3, v4, rfl⟩, S1, none'⟩ ⟨T2, x1, y1, rfl, hT, rfl, hx1, hy1⟩
      obtain rfl := Option.some.inj hx1
      obtain ⟨q, f, e, rfl, hwi, nq, hq, hfe⟩ := S.tp.ok S.ok.wo hy1
      have sT := same_new (o := .tup [V.int (m : Nat), .ref q]) hT
      have S2 := S1.trans sT
      have hq2 := S2 _ _ hq
      refine ⟨T2, _, rfl, SqT.of upd_same, rfl, _, _, rfl, _, _, rfl, ⟨q, _, rfl, SqT.of hq2, rfl, _, _, rfl, _, _, rfl, rfl, rfl, ?_⟩⟩
      refine ⟨_, rfl, _, rfl, _, _, rfl, rfl, _, rfl, ?_⟩
      by_cases h1 : f ≤ i
      · refine iteTb (decide_eq_true h1) ⟨_, rfl, _, _, rfl, rfl, _, rfl, ?_⟩
        by_cases h2 : i < e
        · refine iteTb (decide_eq_true h2) ⟨_, rfl, ?_⟩
          have e2 : outV 0 ws i = .int ((0 + m : Nat) : Int) := outV_hit hwi ⟨h1, h2⟩ (fun j f e h => none' j f e h)
          have k2 := k _ S2
          rw [e2, Nat.zero_add] at k2
          exact k2
        · refine iteFb (decide_eq_false h2) ⟨⟨_, _, _, rfl⟩, S2, fun j f' e' hj hw => ?_⟩
          by_cases hjm : j = m
          · subst hjm
            rw [hwi] at hw
            cases hw
            exact fun z => h2 z.2
          · exact none' j f' e' (by omega) hw
      · refine iteFb (decide_eq_false h1) ⟨_, rfl, iteF ⟨⟨_, _, _, rfl⟩, S2, fun j f' e' hj hw => ?_⟩⟩
        by_cases hjm : j = m
        · subst hjm
          rw [hwi] at hw
          cases hw
          exact fun z => h1 z.1
        · exact none' j f' e' (by omega) hw
    · rintro σ H1 ⟨⟨v2, v3, v4, rfl⟩, S1, none'⟩
      have e2 : outV 0 ws i = .non := outV_miss (fun j f e h => none' j f e (by have := (List.getElem?_eq_some_iff.mp h).1; have := S.tp.len; omega) h)
      have k2 := k _ S1
      rw [e2] at k2
      exact k2
end
end RS
namespace RS
open PySem L2
theorem sfr_ne {C CS : Addr} {H : Hp} {p r g t o dx : Addr} {gs : List Int} {tl : Tl} (R : RuleAt C H r g t o gs tl) (hp : H p = some (.ins CS dx [])) : r ≠ p := fun e => by
  subst e
  obtain ⟨dxr, hobr⟩ := R.ob
  have h1 := hobr.symm.trans hp
  have h2 : flds g t o = [] := by injection (Option.some.inj h1)
  have h3 := flds_g g t o
  rw [h2] at h3
  cases h3
section
variable {P : Program} {w : World} {K : PySem.W.Frag} {mg : Str → Option Value} {base : Heap}
theorem made_same {H : Hp} {p dx : Addr} {o1 o2 : HO} (hp : H p = none) (hd : H dx = none) : Same H (upd (upd H dx o1) p o2) := fun b u e => by
  rw [upd_ne (ne_of_none e hp), upd_ne (ne_of_none e hd)]
  exact e
theorem kb_scene {K : PySem.W.Frag} {f : Addr} {fd : FuncData} (F : Fun K "__init__" "Scene.__init__" s_Scene_ddinitdd f fd) : KBn K fd ["self", "rule", "starts", "outages", "length"] 3 ["outages", "length"] (fun us ws => us ++ ws) (fun vs zs => vs ++ zs) := by
  obtain ⟨oc, od, kV, doc, pm, an, cdv, ct, osl, rfl, lk, hcd⟩ := F.ex
  refine ⟨fun s us ws _ l1 l2 => .of_eq ?_, fun r1 r2 => r1.append r2⟩
  match us, ws, l1, l2 with
  | [_, _, _], [_, _], _, _ => rfl
/-! ### _law_made -/
def spMade (C CS : Addr) : Sp := fun vs H Q _ => ∃ (a u g t s w : Addr) (n : Int) (gs : List Int) (tl : Tl) (bs : List Int) (rs : List V) (ws : List (Int × Int)), vs = [.ref u] ∧ Parts a H u g t s w n gs tl bs rs ws ∧ (∃ z, H a = some z) ∧ GapsOk gs ∧ TlOk gs.length tl ∧ SceneOk bs ws n ∧
  ∀ (p r g2 t2 o s2 w2 : Addr) (rs2 : List V) (H' : Hp), Same H H' → SceneAt C CS a H' p r g2 t2 o s2 w2 gs tl bs rs2 ws n → Q (.ref p) H'
theorem scMade : FnScope ["_law_parts_here", "_law_steps", "_law_ending", "_law_begins", "_law_windows_here", "_law_long"] ["_law_parts_here"] (defScope s_law_made) := ⟨rfl, rfl, rfl, by decide +kernel, rfl, by decide +kernel, by decide +kernel⟩
theorem ok_made {f C CS fR fS : Addr} {fd fdR fdS : FuncData} (F : Fun K "_law_made" "_law_made" s_law_made f fd) (T : Txt K mg C) (TS : TxtS K mg CS) (MR : Mk K C fR) (MS : Mk K CS fS)
    (GR : FnOk P w K mg base CX0 3 fR fdR ["self", "gaps", "tail"] (spInit C)) (bR : Binds K fdR ["self", "gaps", "tail"] [])
    (GS : FnOk P w K mg base CX0 5 fS fdS ["self", "rule", "starts", "outages", "length"] (spSInit C CS)) (kbS : KBn K fdS ["self", "rule", "starts", "outages", "length"] 3 ["outages", "length"] (fun us ws => us ++ ws) (fun vs zs => vs ++ zs)) :
    FnOk P w K mg base CX0 7 f fd ["_law_parts_here"] (spMade C CS) := by
  refine F.ok scMade (fun vs H Q E h => ?_) (fun cdv A outer s H vs Q E hr h => ?_)
  · obtain ⟨a, u, g, t, s, w, n, gs, tl, bs, rs, ws, rfl, _⟩ := h
    rfl
  · obtain ⟨a, u, g, t, sl, wl, n, gs, tl, bs, rs, ws, rfl, B, ⟨z, hz⟩, okG, okT, okS, k⟩ := h
    have hr4 := hr.mono (show 4 ≤ 6 by decide)
    refine ⟨_, (pss_cons (ps_asg (pv 0) (pg_tup rfl (pgs_cons (pg_name (i := 1) scMade.nd rfl (Or.inl rfl)) (pgs_cons (pg_name (i := 2) scMade.nd rfl (Or.inl rfl)) (pgs_cons (pg_name (i := 3) scMade.nd rfl (Or.inl rfl)) (pgs_cons (pg_name (i := 4) scMade.nd rfl (Or.inl rfl)) (pgs_cons (pg_name (i := 5) scMade.nd rfl (Or.inl rfl)) pgs_nil))))))) (pss_one (ps_ret (pe_makeK MS GS hr rfl TS.mgS kbS pass0 (pa_cons (pe_make MR GR hr4 rfl T.mgC bR .nil pass0 (pa_cons (pe_callTy call_list_of (by rfl) T.list (by decide +kernel) (pa_cons (pv 1) pa_nil)) (pa_cons (pv 2) pa_nil))) (pa_cons (pe_callTy call_list_of (by rfl) T.list (by decide +kernel) (pa_cons (pv 3) pa_nil)) pa_nil)) (pk_cons (pe_callTy call_list_of (by rfl) T.list (by decide +kernel) (pa_cons (pv 4) pa_nil)) (pk_cons (pv 5) pk_nil)))))), ?_⟩
    refine ⟨_, rfl, u, _, rfl, SqT.of B.hu, rfl, _, _, rfl, _, _, rfl, _, _, rfl, _, _, rfl, _, _, rfl, rfl, ?_⟩
    refine ⟨_, rfl, g, _, rfl, .inl (SqL.of B.hg), fun l1 hl1 => ?_⟩
    have s1 := same_new (o := .lst (gs.map V.int)) hl1
    have e1 := upd_same (H := H) (a := l1) (o := .lst (gs.map V.int))
    generalize (upd H l1 (.lst (gs.map V.int))) = H1 at s1 e1 ⊢
    refine ⟨_, rfl, fun r dx hrn hdx _ => ?_⟩
    have s2 := made_same (o1 := .own r) (o2 := .ins C dx []) hrn hdx
    have np : ∀ {b : Addr} {v : HO}, H1 b = some v → b ≠ r := fun e => ne_of_none e hrn
    have hz1 := s1 _ _ hz
    refine ⟨r, dx, l1, t, gs, tl, rfl, upd_same, s2 _ _ e1, s2 _ _ (s1 _ _ B.ht), okG, okT, fun g2 o H2 hg2 ho kp R2 => ⟨rfl, ?_⟩⟩
    have S2 : Same H1 H2 := fun b v e => kp b v (s2 _ _ e) (np e)
    have nra : r ≠ a := (np hz1).symm
    have hz2 := S2 _ _ hz1
    have ng2 : g2 ≠ a := (ne_of_none (s2 _ _ hz1) hg2).symm
    have noa : o ≠ a := (ne_of_none (s2 _ _ hz1) ho).symm
    clear s2 hg2 ho kp e1 hl1 hrn hdx
    have B2 := (B.kx (Kx.of s1)).kx (Kx.of S2)
    have SH2 := s1.trans S2
    clear s1 S2 hz1 B
    refine ⟨_, rfl, sl, _, rfl, .inl (SqL.of B2.hs), fun l2 hl2 => ?_⟩
    have s3 := same_new (o := .lst (bs.map V.int)) hl2
    have e3 := upd_same (H := H2) (a := l2) (o := .lst (bs.map V.int))
    generalize (upd H2 l2 (.lst (bs.map V.int))) = H3 at s3 e3 ⊢
    have B3 := B2.kx (Kx.of s3)
    refine ⟨_, rfl, wl, _, rfl, .inl (SqL.of B3.hw), fun l3 hl3 => ?_⟩
    have s4 := same_new (o := .lst rs) hl3
    have e4 := upd_same (H := H3) (a := l3) (o := .lst rs)
    generalize (upd H3 l3 (.lst rs)) = H4 at s4 e4 ⊢
    have B4 := B3.kx (Kx.of s4)
    refine ⟨_, rfl, rfl, rfl, fun p dp hp hdp _ => ?_⟩
    have s34 := s3.trans s4
    have hz4 := s34 _ _ hz2
    have s5 := made_same (o1 := .own p) (o2 := .ins CS dp []) hp hdp
    have npa : p ≠ a := (ne_of_none hz4 hp).symm
    have R4 := (R2.mono s34).mono s5
    refine ⟨a, p, dp, r, g2, t, o, l2, l3, gs, tl, bs, rs, ws, n, rfl, upd_same, R4, s5 _ _ (s4 _ _ e3), s5 _ _ e4, (B4.tp.kx (Kx.of s5)), okS, ⟨z, s5 _ _ hz4⟩, npa, nra, ng2, B2.nt, noa, fun s' w' rs' H' fr SA => ⟨rfl, ?_⟩⟩
    refine k p r g2 t o s' w' rs' H' (fun b v e => ?_) SA
    have e4 := s34 _ _ (SH2 _ _ e)
    exact fr b v (s5 _ _ e4) (ne_of_none e4 hp)
end
end RS
namespace RS
open PySem L2
/-! ### the offsets that the law computes gap by gap -/
theorem gap_back {gs : List Int} {m : Nat} (h1 : 1 ≤ m) (h2 : m ≤ gs.length) {j : Nat} (h : gs.length ≤ j) : gapf gs (.rep m) j = gapf gs (.rep m) (j - m) := by
  rw [gap_rep h]
  by_cases e : gs.length ≤ j - m
  · rw [gap_rep e, show j - gs.length = (j - m - gs.length) + m * 1 by omega, Nat.add_mul_mod_self_left]
  · rw [gap_low (by omega), Nat.mod_eq_of_lt (by omega), show gs.length - m + (j - gs.length) = j - m by omega]
def manyN (gs : List Int) : Tl → Nat
  | .fin => gs.length + 1
  | _ => 60
theorem manyN_bd {gs : List Int} (h : gs.length ≤ 20) : ∀ tl : Tl, 1 ≤ manyN gs tl ∧ manyN gs tl ≤ 60
  | .fin => ⟨show 1 ≤ gs.length + 1 by omega, show gs.length + 1 ≤ 60 by omega⟩
  | .times _ => ⟨show 1 ≤ 60 by decide, Nat.le_refl 60⟩
  | .rep _ => ⟨show 1 ≤ 60 by decide, Nat.le_refl 60⟩
def gapL (gs : List Int) (tl : Tl) (n : Nat) : List Int := (List.range n).map (gapf gs tl)
def offL (gs : List Int) (tl : Tl) (n : Nat) : List Int := (List.range n).map (off gs tl)
theorem gapL_len (gs : List Int) (tl : Tl) (n : Nat) : (gapL gs tl n).length = n := by simp [gapL]
theorem offL_len (gs : List Int) (tl : Tl) (n : Nat) : (offL gs tl n).length = n := by simp [offL]
theorem gapL_get (gs : List Int) (tl : Tl) {n k : Nat} (h : k < n) : (gapL gs tl n)[k]? = some (gapf gs tl k) := by
  unfold gapL
  rw [List.getElem?_map, List.getElem?_range h]
  rfl
theorem offL_get (gs : List Int) (tl : Tl) {n k : Nat} (h : k < n) : (offL gs tl n)[k]? = some (off gs tl k) := by
  unfold offL
  rw [List.getElem?_map, List.getElem?_range h]
  rfl
theorem gapL_succ (gs : List Int) (tl : Tl) (n : Nat) : gapL gs tl (n + 1) = gapL gs tl n ++ [gapf gs tl n] := by
  unfold gapL
  rw [List.range_succ, List.map_append]
  rfl
theorem offL_succ (gs : List Int) (tl : Tl) (n : Nat) : offL gs tl (n + 1) = offL gs tl n ++ [off gs tl n] := by
  unfold offL
  rw [List.range_succ, List.map_append]
  rfl
theorem gapL_low (gs : List Int) (tl : Tl) : gapL gs tl gs.length = gs := by
  refine List.ext_getElem? fun i => ?_
  by_cases h : i < gs.length
  · rw [gapL_get gs tl h, gap_low h, getD_get h]
  · rw [List.getElem?_eq_none (by rw [gapL_len]; omega), List.getElem?_eq_none (by omega)]
theorem gapL_take (gs : List Int) (tl : Tl) {n k : Nat} (h : k ≤ n) : (gapL gs tl n).take k = gapL gs tl k := by
  unfold gapL
  rw [← List.map_take, List.take_range, Nat.min_eq_left h]
end RS
namespace RS
open PySem L2
theorem small2001 {j : Nat} (h : j < 2001) : j < sizeLine := Nat.lt_of_lt_of_le h (by decide +kernel)
theorem Tups.step {a : Addr} {H : Hp} {f : Int → Int} {ws : List (Int × Int)} {ds : List V} {z : Addr} {i : Nat} {x y : Int} (hw : ws[i]? = some (x, y)) (n : z ≠ a) (hz : H z = some (.tup [.int (f x), .int (f y)])) (t : Tups a H ds ((ws.map fun p => (f p.1, f p.2)).take i)) :
    Tups a H (ds ++ [.ref z]) ((ws.map fun p => (f p.1, f p.2)).take (i + 1)) := by
  rw [List.take_add_one, List.getElem?_map, hw]
  exact t.snoc n hz
section
variable {P : Program} {w : World} {K : PySem.W.Frag} {mg : Str → Option Value} {base : Heap}
/-! ### _law_far -/
def farW (c sh : Int) (ws : List (Int × Int)) : List (Int × Int) := ws.map fun p => (c * p.1 + sh, c * p.2 + sh)
def spFar : Sp := fun vs H Q _ => ∃ (a u g t s w : Addr) (n c sh : Int) (gs : List Int) (tl : Tl) (bs : List Int) (rs : List V) (ws : List (Int × Int)), vs = [.ref u, .int c, .int sh] ∧ Parts a H u g t s w n gs tl bs rs ws ∧ (∃ z, H a = some z) ∧ PartsOk gs tl bs ws n ∧ 1 ≤ c ∧ c ≤ 1000000000 ∧
  ∀ (u' g' s' w' : Addr) (rs' : List V) (H' : Hp), Same H H' → Parts a H' u' g' t s' w' (c * n) (gs.map (c * ·)) tl (bs.map (c * · + sh)) rs' (farW c sh ws) → Q (.ref u') H'
theorem scFar : FnScope ["_law_parts_here", "_law_factor", "_law_shift", "_law_steps", "_law_ending", "_law_begins", "_law_windows_here", "_law_long", "_law_wide", "_law_gap", "_law_later", "_law_first", "_law_after", "_law_begin"] ["_law_parts_here", "_law_factor", "_law_shift"] (defScope s_law_far) := ⟨rfl, rfl, rfl, by decide +kernel, rfl, by decide +kernel, by decide +kernel⟩
theorem ok_far {f C : Addr} {fd : FuncData} (F : Fun K "_law_far" "_law_far" s_law_far f fd) (T : Txt K mg C) : FnOk P w K mg base CX0 1 f fd ["_law_parts_here", "_law_factor", "_law_shift"] spFar := by
  refine F.ok scFar (fun vs H Q E h => ?_) (fun cdv A outer s H vs Q E hr h => ?_)
  · obtain ⟨a, u, g, t, s, w, n, c, sh, gs, tl, bs, rs, ws, rfl, _⟩ := h
    rfl
  · obtain ⟨a, u, g, t, sl, wl, n, c, sh, gs, tl, bs, rs, ws, rfl, B, ⟨z0, hz0⟩, ok, c1, c2, k⟩ := h
    refine ⟨_, (pss_cons (ps_asg (pv 0) (pg_tup rfl (pgs_cons (pg_name (i := 3) scFar.nd rfl (Or.inl rfl)) (pgs_cons (pg_name (i := 4) scFar.nd rfl (Or.inl rfl)) (pgs_cons (pg_name (i := 5) scFar.nd rfl (Or.inl rfl)) (pgs_cons (pg_name (i := 6) scFar.nd rfl (Or.inl rfl)) (pgs_cons (pg_name (i := 7) scFar.nd rfl (Or.inl rfl)) pgs_nil))))))) (pss_cons (ps_setLc (i := 8) (own := [("_law_gap", 9)]) (g := gName 9) (tt := tYes) (by rfl) scFar.nd rfl rfl (sw_true rfl rfl rfl (by decide +kernel)) (pi_list (pv 3)) (blkOk_by (own := [("_law_gap", 9)]) (N := ["_law_parts_here", "_law_factor", "_law_shift", "_law_steps", "_law_ending", "_law_begins", "_law_windows_here", "_law_long", "_law_wide", "_law_gap", "_law_later", "_law_first", "_law_after", "_law_begin"]) (sc := defScope s_law_far) (by decide +kernel))
        (fun _ _ _ _ _ => (pg_name (i := 9) scFar.nd rfl (Or.inl rfl))) (fun _ _ _ _ _ => pts_nil) (fun _ _ _ _ _ => (pe_op op_mul (pv 1) (pv 9)))) (pss_cons (ps_setLc (i := 10) (own := [("_law_first", 11), ("_law_after", 12)]) (g := gTup K 2 (gCons (gName 11) (gCons (gName 12) gNil))) (tt := tYes) (by rfl) scFar.nd rfl rfl (sw_true rfl rfl rfl (by decide +kernel)) (pi_list (pv 6)) (blkOk_by (own := [("_law_first", 11), ("_law_after", 12)]) (N := ["_law_parts_here", "_law_factor", "_law_shift", "_law_steps", "_law_ending", "_law_begins", "_law_windows_here", "_law_long", "_law_wide", "_law_gap", "_law_later", "_law_first", "_law_after", "_law_begin"]) (sc := defScope s_law_far) (by decide +kernel))
        (fun _ _ _ _ _ => pg_tup rfl (pgs_cons (pg_name (i := 11) scFar.nd rfl (Or.inl rfl)) (pgs_cons (pg_name (i := 12) scFar.nd rfl (Or.inl rfl)) pgs_nil))) (fun _ _ _ _ _ => pts_nil) (fun _ _ _ _ _ => (pe_tup (pa_cons (pe_op op_add (pe_op op_mul (pv 1) (pv 11)) (pv 2)) (pa_cons (pe_op op_add (pe_op op_mul (pv 1) (pv 12)) (pv 2)) pa_nil))))) (pss_one (ps_ret (pe_tup (pa_cons (pv 8) (pa_cons (pv 4) (pa_cons (pe_lc (own := [("_law_begin", 13)]) (g := gName 13) (tt := tYes) rfl scFar.nd (pi_list (pv 5)) (blkOk_by (own := [("_law_begin", 13)]) (N := ["_law_parts_here", "_law_factor", "_law_shift", "_law_steps", "_law_ending", "_law_begins", "_law_windows_here", "_law_long", "_law_wide", "_law_gap", "_law_later", "_law_first", "_law_after", "_law_begin"]) (sc := defScope s_law_far) (by decide +kernel))
        (fun _ _ _ _ _ => (pg_name (i := 13) scFar.nd rfl (Or.inl rfl))) (fun _ _ _ _ _ => pts_nil) (fun _ _ _ _ _ => (pe_op op_add (pe_op op_mul (pv 1) (pv 13)) (pv 2)))) (pa_cons (pv 10) (pa_cons (pe_op op_mul (pv 1) (pv 7)) pa_nil))))))))))), ?_⟩
    refine ⟨_, rfl, u, _, rfl, SqT.of B.hu, rfl, _, _, rfl, _, _, rfl, _, _, rfl, _, _, rfl, _, _, rfl, rfl, ?_⟩
    -- the gaps
    refine ⟨_, rfl, g, rfl, ⟨_, SqL.of B.hg⟩, fun D hD => lc_list (a := g) (xs := gs.map V.int) (fun m H' => Same H H' ∧ H' D = some (.lst (((gs.map (c * ·)).take m).map V.int))) ⟨same_new hD, upd_same⟩ (fun m H' _ p => SqL.of (p.1 _ _ B.hg)) (fun m z H' hz p => ?_) (fun H1 p => ?_)⟩
    · obtain ⟨S, hd⟩ := p
      obtain ⟨zz, hzz, rfl⟩ := map_of hz
      refine ⟨rfl, ?_⟩
      refine yes_t (iteT ?_)
      refine ⟨_, rfl, _, rfl, _, _, rfl, rfl, .inl ⟨by omega, by omega⟩, _, hd, ?_, fun b u e => ?_, ?_⟩
      · rw [List.length_map, List.length_take, List.length_map]
        have := ok.sm.1
        exact small1000 (by omega)
      · rw [upd_ne (ne_of_none e hD)]
        exact S b u e
      · rw [upd_same, List.take_add_one, List.getElem?_map, hzz, List.map_append]
        rfl
    obtain ⟨S1, hd1⟩ := p
    rw [List.length_map, ← List.length_map (f := (c * ·)), List.take_length] at hd1
    have B1 := B.kx (Kx.of S1)
    have nDa : D ≠ a := (ne_of_none hz0 hD).symm
    -- the windows
    refine ⟨_, rfl, wl, rfl, ⟨_, SqL.of B1.hw⟩, fun L hL => lc_list (a := wl) (xs := rs) (fun m H' => Same H1 H' ∧ ∃ ds, H' L = some (.lst ds) ∧ ds.length ≤ m ∧ Tups a H' ds ((farW c sh ws).take m)) ⟨same_new hL, [], upd_same, Nat.le_refl _, .nil⟩ (fun m H' _ p => SqL.of (p.1 _ _ B1.hw)) (fun m z H' hz p => ?_) (fun H2 p => ?_)⟩
    · obtain ⟨S, ds, hds, hdl, tpd⟩ := p
      obtain ⟨q, f, e, rfl, hwi, nq, hq⟩ := B1.tp.at hz
      have hm : m < rs.length := (List.getElem?_eq_some_iff.mp hz).1
      refine ⟨q, _, rfl, SqT.of (S _ _ hq), rfl, _, _, rfl, _, _, rfl, rfl, rfl, ?_⟩
      refine yes_t (iteT ?_)
      refine ⟨_, rfl, _, rfl, _, _, rfl, rfl, .inl ⟨by omega, by omega⟩, _, rfl, _, _, rfl, rfl, _, rfl, _, rfl, _, _, rfl, rfl, .inl ⟨by omega, by omega⟩, _, rfl, _, _, rfl, rfl, (by show 2 ≤ sizeLine; decide), fun z hz => ?_⟩
      have sz := same_new (o := .tup [V.int (c * f + sh), .int (c * e + sh)]) hz
      have nza : z ≠ a := (ne_of_none (S _ _ (S1 _ _ hz0)) hz).symm
      have nzL : L ≠ z := ne_of_none hds hz
      have := B1.tp.len
      have := ok.w3
      refine ⟨ds, sz _ _ hds, small1000 (by omega), fun b u e => ?_, ds ++ [.ref z], upd_same, ?_, Tups.step (f := fun x => c * x + sh) hwi nza ?_ ((tpd.kx (Kx.of sz)).off (sz _ _ hds))⟩
      · rw [upd_ne (ne_of_none e hL)]
        exact sz _ _ (S b u e)
      · rw [List.length_append]
        show ds.length + 1 ≤ _
        omega
      · rw [upd_ne nzL.symm]
        exact upd_same
    obtain ⟨S2, ds, hds, hdl, tpd⟩ := p
    have efl : rs.length = (farW c sh ws).length := by unfold farW; rw [List.length_map, B.tp.len]
    rw [efl, List.take_length] at tpd
    have B2 := B1.kx (Kx.of S2)
    have hd2 := S2 _ _ hd1
    have nLa : L ≠ a := (ne_of_none (S1 _ _ hz0) hL).symm
    -- the starts
    refine ⟨_, rfl, _, rfl, _, rfl, sl, rfl, ⟨_, SqL.of B2.hs⟩, fun G hG => lc_list (a := sl) (xs := bs.map V.int) (fun m H' => Same H2 H' ∧ H' G = some (.lst (((bs.map (c * · + sh)).take m).map V.int))) ⟨same_new hG, upd_same⟩ (fun m H' _ p => SqL.of (p.1 _ _ B2.hs)) (fun m z H' hz p => ?_) (fun H3 p => ?_)⟩
    · obtain ⟨S, hd⟩ := p
      obtain ⟨zz, hzz, rfl⟩ := map_of hz
      refine ⟨rfl, ?_⟩
      refine yes_t (iteT ?_)
      refine ⟨_, rfl, _, rfl, _, _, rfl, rfl, .inl ⟨by omega, by omega⟩, _, rfl, _, _, rfl, rfl, _, hd, ?_, fun b u e => ?_, ?_⟩
      · rw [List.length_map, List.length_take, List.length_map]
        have := ok.b8
        exact small1000 (by omega)
      · rw [upd_ne (ne_of_none e hG)]
        exact S b u e
      · rw [upd_same, List.take_add_one, List.getElem?_map, hzz, List.map_append]
        rfl
    obtain ⟨S3, hd3⟩ := p
    rw [List.length_map, ← List.length_map (f := (c * · + sh)), List.take_length] at hd3
    have B3 := B2.kx (Kx.of S3)
    refine ⟨_, rfl, _, rfl, _, rfl, _, _, rfl, rfl, .inl ⟨by omega, by omega⟩, (by show 5 ≤ sizeLine; decide), fun v hv => ?_⟩
    have sv := same_new (o := .tup [V.ref D, .ref t, .ref G, .ref L, .int (c * n)]) hv
    have SA := ((S1.trans S2).trans S3).trans sv
    have nGa : G ≠ a := (ne_of_none (S2 _ _ (S1 _ _ hz0)) hG).symm
    have nva : v ≠ a := (ne_of_none (S3 _ _ (S2 _ _ (S1 _ _ hz0))) hv).symm
    exact k v D G L ds _ SA ⟨upd_same, nva, sv _ _ (S3 _ _ hd2), nDa, sv _ _ B3.ht, B3.nt, sv _ _ hd3, nGa, sv _ _ (S3 _ _ hds), nLa, (tpd.kx (Kx.of S3)).kx (Kx.of sv)⟩
/-! ### _law_offsets -/
def manyC (gs : List Int) (n : Nat) : Tl → Nat
  | .fin => min n (gs.length + 1)
  | _ => n
def spOfs : Sp := fun vs H Q _ => ∃ (g t : Addr) (gs : List Int) (tl : Tl) (n : Nat), vs = [.ref g, .ref t, .int (n : Int)] ∧ 1 ≤ n ∧ n ≤ 2000 ∧ H g = some (.lst (gs.map V.int)) ∧ H t = some (.tup tl.vs) ∧ GapsOk gs ∧ TlOk gs.length tl ∧
  ∀ p H', H p = none → Same H H' → H' p = some (.lst ((offL gs tl (manyC gs n tl)).map V.int)) → Q (.ref p) H'
theorem scOfs : FnScope ["_law_steps", "_law_ending", "_law_most", "_law_found", "_law_gap", "_law_k"] ["_law_steps", "_law_ending", "_law_most"] (defScope s_law_offsets) := ⟨rfl, rfl, rfl, by decide +kernel, rfl, by decide +kernel, by decide +kernel⟩
theorem ok_ofs {f C : Addr} {fd : FuncData} (F : Fun K "_law_offsets" "_law_offsets" s_law_offsets f fd) (T : Txt K mg C) : FnOk P w K mg base CX0 1 f fd ["_law_steps", "_law_ending", "_law_most"] spOfs := by
  refine F.ok scOfs (fun vs H Q E h => ?_) (fun cdv A outer s H vs Q E hr h => ?_)
  · obtain ⟨g, t, gs, tl, n, rfl, _⟩ := h
    rfl
  · obtain ⟨g, t, gs, tl, n, rfl, hn1, hn5, hg, ht, okG, okT, k⟩ := h
    have hlen := okG.1
    refine ⟨_, (pss_cons (ps_par (i := 3) (j := 4) (by rfl) scOfs.nd rfl rfl (by decide) rfl rfl (pa_cons (pe_lst (pa_cons pe_int pa_nil)) (pa_cons pe_int pa_nil)) (by rfl)) (pss_cons (ps_while PassesOwn.never (pt_cmpR op_lt (pe_callB call_len_seq (by rfl) T.len (by decide +kernel) (pa_cons (pv 3) pa_nil)) (pv 2) (nomark _))
        (pss_cons (ps_set (i := 5) scOfs.nd rfl (Or.inl rfl) (pe_op op_sub (pe_callB call_len_seq (by rfl) T.len (by decide +kernel) (pa_cons (pv 3) pa_nil)) pe_int)) (Evl.pss_cut (ps_if (pt_cmpR op_lt (pv 5) (pe_callB call_len_seq (by rfl) T.len (by decide +kernel) (pa_cons (pv 0) pa_nil)) (nomark _)) (pss_one (ps_set (i := 4) scOfs.nd rfl (Or.inl rfl) (pe_ix ix_list (pv 0) (pv 5) (fun _ _ => rfl)))) (pss_one (ps_if (pt_cmpR op_eq (pe_ix ix_tup (pv 1) pe_int (fun _ _ => rfl)) pe_str (nomark _)) (pss_one (ps_ret (pv 3))) (pss_one (ps_if (pt_cmpR op_eq (pe_ix ix_tup (pv 1) pe_int (fun _ _ => rfl)) pe_str (nomark _)) (pss_one (ps_set (i := 4) scOfs.nd rfl (Or.inl rfl) (pe_op op_mul (pv 4) (pe_ix ix_tup (pv 1) pe_int (fun _ _ => rfl))))) (pss_one (ps_set (i := 4) scOfs.nd rfl (Or.inl rfl) (pe_ix ix_list (pv 0) (pe_op op_add (pe_op op_sub (pe_callB call_len_seq (by rfl) T.len (by decide +kernel) (pa_cons (pv 0) pa_nil)) (pe_ix ix_tup (pv 1) pe_int (fun _ _ => rfl))) (pe_op op_mod (pe_callTy call_int1 (by rfl) T.int (by decide +kernel) (pa_cons (pe_op op_sub (pv 5) (pe_callB call_len_seq (by rfl) T.len (by decide +kernel) (pa_cons (pv 0) pa_nil))) pa_nil)) (pe_ix ix_tup (pv 1) pe_int (fun _ _ => rfl)))) (fun _ _ => rfl))))))))) (pss_one (ps_expr (pe_bm PySem.F.plainAttrs_list PySem.F.slot_list_append PySem.F.type_list_append mt_append (pv 3) (pa_cons (pe_op op_add (pe_ix ix_list (pv 3) (pe_un un_neg pe_int) (fun _ _ => rfl)) (pv 4)) pa_nil))))))) (pss_one (ps_ret (pv 3))))), ?_⟩
    refine ⟨by show 1 ≤ sizeLine; decide, fun l hl => ⟨_, _, rfl, ?_⟩⟩
    have S1 : Same H (upd H l (.lst [.int 0])) := same_new hl
    refine ⟨fun m σ H' => ∃ (j : Nat) (v : Int) (v5 : Option V), m = n - j ∧ 1 ≤ j ∧ j ≤ n ∧ (tl = .fin → j ≤ gs.length + 1) ∧ (2 ≤ j → v = gapf gs tl (j - 2)) ∧ σ = [some (.ref g), some (.ref t), some (.int (n : Int)), some (.ref l), some (.int v), v5] ∧ Same H H' ∧ H' l = some (.lst ((offL gs tl j).map V.int)), ⟨n - 1, 1, 0, none, rfl, Nat.le_refl _, hn1, fun _ => by omega, fun h => absurd h (by omega), rfl, S1, ?_⟩, ?_⟩
    · rw [upd_same]
      show some (HO.lst [V.int 0]) = some (HO.lst [V.int (off gs tl 0)])
      rw [off_low (Nat.zero_le _)]
      rfl
    rintro m σ H' ⟨j, v, v5, rfl, hj1, hjn, hjf, hv, rfl, S, hr'⟩
    have zl : ((offL gs tl j).map V.int).length = j := by rw [List.length_map, offL_len]
    refine ⟨_, rfl, l, _, rfl, .inl (SqL.of hr'), _, rfl, _, _, rfl, rfl, _, rfl, ?_⟩
    rw [zl]
    by_cases hlt : j < n
    · refine iteTb (decide_eq_true (by omega)) ⟨fun σ' H2 => ∃ (v : Int) (v5 : Option V), (tl = .fin → j ≤ gs.length) ∧ v = gapf gs tl (j - 1) ∧ σ' = [some (.ref g), some (.ref t), some (.int (n : Int)), some (.ref l), some (.int v), v5] ∧ Same H H2 ∧ H2 l = some (.lst ((offL gs tl (j + 1)).map V.int)), ?_, ?_⟩
      · rintro σ' H2 ⟨v, v5, h1, h2, rfl, S2, h3⟩
        exact ⟨n - (j + 1), by omega, j + 1, v, v5, rfl, by omega, by omega, fun e => by have := h1 e; omega, fun _ => by rw [h2]; rfl, rfl, S2, h3⟩
      · refine ⟨_, rfl, l, _, rfl, .inl (SqL.of hr'), _, _, rfl, rfl, ?_⟩
        rw [zl]
        have ej : ((j : Nat) : Int) - 1 = ((j - 1 : Nat) : Int) := by omega
        refine ⟨fun σ' H2 => (tl = .fin → j ≤ gs.length) ∧ σ' = [some (.ref g), some (.ref t), some (.int (n : Int)), some (.ref l), some (.int (gapf gs tl (j - 1))), some (.int ((j : Int) - 1))] ∧ H2 = H', ?_, ?_⟩
        · refine ⟨_, rfl, _, rfl, g, _, rfl, .inl (SqL.of (S _ _ hg)), _, _, rfl, rfl, _, rfl, ?_⟩
          rw [List.length_map]
          by_cases hk : j - 1 < gs.length
          · refine iteTb (decide_eq_true (by omega)) ?_
            refine ⟨_, rfl, _, rfl, g, _, _, .int (gs.getD (j - 1) 0), rfl, rfl, SqL.of (S _ _ hg), by rw [ej]; exact at_map (getD_get hk), fun _ => by omega, ?_, rfl⟩
            rw [gap_low hk]
            rfl
          · refine iteFb (decide_eq_false (by omega)) ?_
            refine ⟨_, rfl, t, _, _, _, rfl, rfl, SqT.of (S _ _ ht), tl.at0, rfl, _, rfl, ?_⟩
            cases tl with
            | fin =>
              refine iteTb wEE ⟨_, rfl, ?_⟩
              have := hjf rfl
              have e : j = manyC gs n .fin := by show j = min n (gs.length + 1); omega
              rw [e] at hr'
              exact k l H' hl S hr'
            | times b =>
              have hl0 : 0 < gs.length := okT.1
              refine iteFb wTE ⟨_, rfl, t, _, _, _, rfl, rfl, SqT.of (S _ _ ht), Tl.at0 (.times b), rfl, _, rfl, iteTb wTT ?_⟩
              refine ⟨_, rfl, _, rfl, t, _, _, _, rfl, rfl, SqT.of (S _ _ ht), atI_nat (j := 1) rfl, _, _, rfl, rfl, .inr ⟨by have := okT.2.1; omega, by have := okT.2.2; omega⟩, (fun e => nomatch e), ?_, rfl⟩
              rw [hv (by omega), gap_grow (n := j - 1) hl0 (by omega), show j - 1 - 1 = j - 2 by omega]
              rfl
            | rep m =>
              have hm0 : 1 ≤ m := okT.1
              have hm1 : m ≤ gs.length := okT.2
              have hr0 : (j - 1 - gs.length) % m < m := Nat.mod_lt _ (by omega)
              refine iteFb wRE ⟨_, rfl, t, _, _, _, rfl, rfl, SqT.of (S _ _ ht), Tl.at0 (.rep m), rfl, _, rfl, iteFb wRT ?_⟩
              refine ⟨_, rfl, _, rfl, g, _, rfl, .inl (SqL.of (S _ _ hg)), _, rfl, t, _, _, _, rfl, rfl, SqT.of (S _ _ ht), atI_nat (j := 1) rfl, _, _, rfl, rfl, _, rfl, _, rfl, g, _, rfl, .inl (SqL.of (S _ _ hg)), _, _, rfl, rfl, .inl ⟨_, rfl, ?_⟩⟩
              refine ⟨_, rfl, t, _, _, _, rfl, rfl, SqT.of (S _ _ ht), atI_nat (j := 1) rfl, _, _, rfl, rfl, by omega, _, _, rfl, rfl, g, _, _, .int (gs.getD (gs.length - m + (j - 1 - gs.length) % m) 0), rfl, rfl, SqL.of (S _ _ hg), ?_, (fun e => nomatch e), ?_, rfl⟩
              · rw [List.length_map, show ((j : Int) - 1 - (gs.length : Int)) = ((j - 1 - gs.length : Nat) : Int) by omega, ← Int.natCast_emod, show ((gs.length : Int) - (m : Int)) = ((gs.length - m : Nat) : Int) by omega, ← Int.natCast_add]
                exact at_map (getD_get (by omega))
              · rw [gap_rep (n := j - 1) (by omega)]
                rfl
        · rintro _ H2 ⟨hf, rfl, rfl⟩
          refine ⟨_, rfl, .inl ⟨rfl, _, SqL.of hr'⟩, _, rfl, _, rfl, l, _, _, _, rfl, rfl, SqL.of hr', at_back1 (v := .int (off gs tl (j - 1))) (by rw [zl]; omega) (by rw [zl, List.getElem?_map, offL_get gs tl (by omega)]; rfl), _, rfl, _, _, rfl, rfl, l, _, _, rfl, rfl, hr', by rw [zl]; exact small2001 (by omega), _, _, hf, rfl, rfl, fun b o e => ?_, ?_⟩
          · rw [upd_ne (ne_of_none e hl)]
            exact S b o e
          · rw [upd_same, offL_succ, List.map_append]
            show some (HO.lst (_ ++ [V.int (off gs tl (j - 1) + gapf gs tl (j - 1))])) = some (HO.lst (_ ++ [V.int (off gs tl j)]))
            rw [← off_succ okT (n := j - 1) (fun e => by have := hf e; omega), show j - 1 + 1 = j by omega]
    · refine iteFb (decide_eq_false (by omega)) ⟨_, rfl, ?_⟩
      have e : j = manyC gs n tl := by
        cases tl with
        | fin => have := hjf rfl; show j = min n (gs.length + 1); omega
        | times b => show j = n; omega
        | rep m => show j = n; omega
      rw [e] at hr'
      exact k l H' hl S hr'
end
end RS
namespace RS
open PySem L2
/-! ### attempts found at distances: the mathematics -/
theorem off_repbd2 {gs : List Int} {m : Nat} (okG : GapsOk gs) (h1 : 1 ≤ m) (h2 : m ≤ gs.length) {n : Nat} (hn : n < 10 ^ 25) : off gs (.rep m) n < 2 ^ 150 := by
  by_cases h : n ≤ gs.length
  · have := pre_le okG n h
    have := okG.1
    rw [off_low h]
    omega
  · rw [off_rep h1 h2 (by omega)]
    have hr : (n - gs.length) % m < m := Nat.mod_lt _ (by omega)
    have hq : (n - gs.length) / m ≤ n - gs.length := Nat.div_le_self _ _
    have hp := per_bd okG h1 h2
    have ha := pre_le okG (gs.length - m + (n - gs.length) % m) (by omega)
    have hl := okG.1
    have hm := Int.mul_le_mul (show (((n - gs.length) / m : Nat) + 1 : Int) ≤ 10 ^ 25 by omega) hp.2 (by omega) (by decide)
    omega
theorem HD_of {gs : List Int} {tl : Tl} (okG : GapsOk gs) (okT : TlOk gs.length tl) {n : Nat} (hn : n < 10 ^ 25) (hb : ∀ b, tl = .times b → n ≤ 1000) {d : Int} (hd : d ≤ off gs tl n) : HD gs tl d := by
  cases tl with
  | fin => exact True.intro
  | times b =>
    have h1 := hb b rfl
    have h2 := off_mono okG okT n (1000 - n) (fun e => nomatch e)
    rw [show n + (1000 - n) = 1000 by omega] at h2
    show d ≤ off gs (.times b) 1000
    omega
  | rep m =>
    have h1 := off_repbd2 okG okT.1 okT.2 hn
    show d < 2 ^ 200
    omega
theorem AA_hit {gs : List Int} {tl : Tl} (okG : GapsOk gs) (okT : TlOk gs.length tl) {k : Nat} (hk : AttOk gs tl k) {d : Int} (hd : d = off gs tl k) {v : V} (h : AA gs tl d v) : v = .int (k : Int) := by
  obtain ⟨a, hf, hv⟩ := h
  have e : a = .int (k : Int) := FF_one okG okT hf (.inr ⟨k, rfl, hk, by omega, fun h0 => by have := off_lt okG okT (i := k - 1) (j := k) (by omega) hk.fin; omega⟩)
  rcases hv with ⟨n, e2, e3, e4⟩ | ⟨e2, _⟩
  · rw [e4, e]
  · exact absurd hd.symm (e2 k e)
theorem AA_miss {gs : List Int} {tl : Tl} {d : Int} {v : V} (h : AA gs tl d v) (hn : ∀ k, AttOk gs tl k → off gs tl k ≠ d) : v = .non := by
  obtain ⟨a, hf, hv⟩ := h
  rcases hv with ⟨n, e2, e3, e4⟩ | ⟨_, e4⟩
  · rcases hf with ⟨e5, _⟩ | ⟨m, e5, hm, _⟩
    · rw [e2] at e5
      cases e5
    · rw [e2] at e5
      have e6 := V.int.inj e5
      have : n = m := by omega
      subst this
      exact absurd e3 (hn n hm)
  · exact e4
theorem off_nn {gs : List Int} {tl : Tl} (okG : GapsOk gs) (okT : TlOk gs.length tl) {k : Nat} (hk : AttOk gs tl k) : 0 ≤ off gs tl k := by
  have := off_mono okG okT 0 k (fun e => by have := hk.fin e; omega)
  rw [Nat.zero_add, show off gs tl 0 = 0 by rw [off_low (Nat.zero_le _), pre_zero]] at this
  omega
theorem many_att {gs : List Int} {tl : Tl} {n k : Nat} (hn : n ≤ 1000) (h : k < manyC gs n tl) : AttOk gs tl k := by
  cases tl with
  | fin =>
    have h' : k < min n (gs.length + 1) := h
    show k ≤ gs.length
    omega
  | times b =>
    have h' : k < n := h
    show k ≤ 1000
    omega
  | rep m => exact True.intro
theorem many_le (gs : List Int) (n : Nat) (tl : Tl) : manyC gs n tl ≤ n := by
  cases tl with
  | fin => exact Nat.min_le_left _ _
  | times b => exact Nat.le_refl _
  | rep m => exact Nat.le_refl _
theorem many_pos (gs : List Int) {n : Nat} (h : 1 ≤ n) (tl : Tl) : 1 ≤ manyC gs n tl := by
  cases tl with
  | fin => show 1 ≤ min n (gs.length + 1); omega
  | times b => exact h
  | rep m => exact h
/-- the first attempts that lie at a distance -/
def hitsAt (os : List Int) (d : Int) : List V := ((List.range os.length).filter fun k => decide (os.getD k 0 = d)).map fun (k : Nat) => V.int (k : Int)
/-- what the law expects of a distance below the last offset is what attempt_at gives -/
theorem due_at {gs : List Int} {tl : Tl} (okG : GapsOk gs) (okT : TlOk gs.length tl) {n : Nat} (hn0 : 1 ≤ n) (hn : ∀ k, k < n → AttOk gs tl k) {d : Int} (hd : d < off gs tl (n - 1)) {v : V} (h : AA gs tl d v) :
    (hitsAt (offL gs tl n) d ++ [V.non])[0]? = some v := by
  have hg : ∀ k, k < n → (offL gs tl n).getD k 0 = off gs tl k := fun k hk => by
    rw [List.getD_eq_getElem?_getD, offL_get gs tl hk]
    rfl
  unfold hitsAt
  rw [offL_len]
  by_cases hx : ∃ k, k < n ∧ off gs tl k = d
  · obtain ⟨k, hk, hkd⟩ := hx
    have e1 : v = .int (k : Int) := AA_hit okG okT (hn k hk) hkd.symm h
    have mem : k ∈ (List.range n).filter fun k => decide ((offL gs tl n).getD k 0 = d) := by
      rw [List.mem_filter, List.mem_range]
      exact ⟨hk, by rw [hg k hk]; exact decide_eq_true hkd⟩
    cases hl : (List.range n).filter fun k => decide ((offL gs tl n).getD k 0 = d) with
    | nil =>
      rw [hl] at mem
      cases mem
    | cons j r =>
      have hj : j ∈ (List.range n).filter fun k => decide ((offL gs tl n).getD k 0 = d) := by rw [hl]; exact List.mem_cons_self
      rw [List.mem_filter, List.mem_range] at hj
      have hjd : off gs tl j = d := by rw [← hg j hj.1]; exact of_decide_eq_true hj.2
      have e2 : v = .int (j : Int) := AA_hit okG okT (hn j hj.1) hjd.symm h
      rw [e2]
      rfl
  · have e1 : v = .non := AA_miss h fun k hk hkd => by
      by_cases hkn : k < n
      · exact hx ⟨k, hkn, hkd⟩
      · have := off_mono okG okT (n - 1) (k - (n - 1)) (fun e => by have := hk.fin e; omega)
        rw [show n - 1 + (k - (n - 1)) = k by omega] at this
        omega
    have e2 : (List.range n).filter (fun k => decide ((offL gs tl n).getD k 0 = d)) = [] := by
      rw [List.filter_eq_nil_iff]
      intro k hk
      rw [List.mem_range] at hk
      rw [hg k hk]
      intro z
      exact hx ⟨k, hk, of_decide_eq_true z⟩
    rw [e2, e1]
    rfl
end RS
namespace RS
open PySem L2
/-- a def that may raise is called where it doesn't -/
theorem pass0X {X : Cx} : Passes (L2.CX X.prog X.w) X (fun _ _ _ => False) := passUp takes0
def hitsTo (os : List Int) (d : Int) (i : Nat) : List V := ((List.range i).filter fun k => decide (os.getD k 0 = d)).map fun (k : Nat) => V.int (k : Int)
theorem hitsTo_len (os : List Int) (d : Int) (i : Nat) : (hitsTo os d i).length ≤ i := by
  unfold hitsTo
  rw [List.length_map]
  exact Nat.le_trans (List.length_filter_le _ _) (by rw [List.length_range]; exact Nat.le_refl _)
theorem hitsTo_succ (os : List Int) (d : Int) (i : Nat) : hitsTo os d (i + 1) = if os.getD i 0 = d then hitsTo os d i ++ [.int (i : Int)] else hitsTo os d i := by
  unfold hitsTo
  rw [List.range_succ, List.filter_append, List.map_append]
  by_cases h : os.getD i 0 = d
  · rw [if_pos h]
    have e : [i].filter (fun k => decide (os.getD k 0 = d)) = [i] := by rw [List.filter_cons, decide_eq_true h]; rfl
    rw [e]
    rfl
  · rw [if_neg h]
    have e : [i].filter (fun k => decide (os.getD k 0 = d)) = [] := by rw [List.filter_cons, decide_eq_false h]; rfl
    rw [e]
    simp
section
variable {P : Program} {w : World} {K : PySem.W.Frag} {mg : Str → Option Value} {base : Heap}
def spSR (C CS : Addr) : Sp := fun vs H Q _ => ∃ (a p r g t o s w sB ofs : Addr) (gs : List Int) (tl : Tl) (bs : List Int) (rs : List V) (ws : List (Int × Int)) (n : Int) (c : Nat), vs = [.ref p, .ref sB, .ref ofs, .int (c : Int)] ∧ SceneAt C CS a H p r g t o s w gs tl bs rs ws n ∧ H sB = some (.lst (bs.map V.int)) ∧ c < bs.length ∧ H ofs = some (.lst ((offL gs tl (manyC gs 30 tl)).map V.int)) ∧ ∀ H', Same H H' → Q (.bl true) H'
theorem scSR : FnScope ["_law_made_here", "_law_begins", "_law_offsets_here", "_law_client", "_law_attempt", "_law_place", "_law_slot", "_law_near", "_law_due", "_law_k", "_law_other"] ["_law_made_here", "_law_begins", "_law_offsets_here", "_law_client"] (defScope s_law_slots_right) := ⟨rfl, rfl, rfl, by decide +kernel, rfl, by decide +kernel, by decide +kernel⟩
theorem ok_SR {f C CS CA CL CC CSl fS fA : Addr} {fd fdS fdA : FuncData} (F : Fun K "_law_slots_right" "_law_slots_right" s_law_slots_right f fd) (T : Txt K mg C) (TS : TxtS K mg CS)
    (GS : FnOk P w K mg base (L2.CX P w) 5 fS fdS ["self", "client", "attempt"] (spSlot K C CS CA CL CC)) (bS : Binds K fdS ["self", "client", "attempt"] []) (mS : Meth K CS "slot_of" fS)
    (GA : FnOk P w K mg base (L2.CX P w) 7 fA fdA ["self", "client", "slot"] (spAin K C CS CSl CC)) (bA : Binds K fdA ["self", "client", "slot"] []) (mA : Meth K CS "attempt_in" fA) : FnOk P w K mg base CX0 8 f fd ["_law_made_here", "_law_begins", "_law_offsets_here", "_law_client"] (spSR C CS) := by
  refine F.ok scSR (fun vs H Q E h => ?_) (fun cdv A outer s H vs Q E hr h => ?_)
  · obtain ⟨a, p, r, g, t, o, s, w, sB, ofs, gs, tl, bs, rs, ws, n, c, rfl, _⟩ := h
    rfl
  · obtain ⟨a, p, r, g, t, o, sl, wl, sB, ofs, gs, tl, bs, rs, ws, n, c, rfl, S, hB, hc, hO, k⟩ := h
    have hr5 := hr.mono (show 5 ≤ 7 by decide)
    refine ⟨_, (pss_cons (ps_for PassesOwn.never rfl (pi_enum (by rfl) TS.enum (pa_cons (pv 2) pa_nil)) (pg_tup rfl (pgs_cons (pg_name (i := 4) scSR.nd rfl (Or.inl rfl)) (pgs_cons (pg_name (i := 5) scSR.nd rfl (Or.inl rfl)) pgs_nil)))
        (pss_cons (ps_set (i := 6) scSR.nd rfl (Or.inl rfl) (pe_op op_add (pe_ix ix_list (pv 1) (pv 3) (fun _ _ => rfl)) (pv 5))) (pss_cons (ps_if (PW.pt (pw_or (pt_cmpR op_ne (pe_meth (E := fun _ _ _ => False) (pv 0) TS.cl mS GS hr5 bS .nil pass0X (pa_cons (pv 3) (pa_cons (pv 4) pa_nil))) (pv 6) (nomark _)) (pw_or1 (pt_cmpR op_ne (pe_meth (E := fun _ _ _ => False) (pv 0) TS.cl mA GA hr bA .nil pass0X (pa_cons (pv 3) (pa_cons (pv 6) pa_nil))) (pv 4) (nomark _))))) (pss_one (ps_ret pe_bl)) pss_nil) (pss_one (ps_for PassesOwn.never rfl (pi_list (pe_lst (pa_cons (pe_op op_sub (pv 6) pe_int) (pa_cons (pe_op op_add (pv 6) pe_int) pa_nil)))) (pg_name (i := 7) scSR.nd rfl (Or.inr rfl))
            (pss_cons (ps_set (i := 8) scSR.nd rfl (Or.inl rfl) (pe_ix ix_list (pe_op op_cat (pe_lc (own := [("_law_k", 9), ("_law_other", 10)]) (g := gTup K 2 (gCons (gName 9) (gCons (gName 10) gNil))) rfl scSR.nd (pi_enum (by rfl) TS.enum (pa_cons (pv 2) pa_nil)) (blkOk_by (own := [("_law_k", 9), ("_law_other", 10)]) (N := ["_law_made_here", "_law_begins", "_law_offsets_here", "_law_client", "_law_attempt", "_law_place", "_law_slot", "_law_near", "_law_due", "_law_k", "_law_other"]) (sc := defScope s_law_slots_right) (by decide +kernel))
                (fun _ _ _ _ _ => pg_tup rfl (pgs_cons (pg_name (i := 9) scSR.nd rfl (Or.inl rfl)) (pgs_cons (pg_name (i := 10) scSR.nd rfl (Or.inl rfl)) pgs_nil))) (fun _ _ _ _ _ => pts_one (pt_cmpR op_eq (pe_op op_add (pe_ix (r := rIxL K) ix_list (pv 1) (pv 3) (fun _ _ => rfl)) (pv 10)) (pv 7) (nomark _))) (fun _ _ _ _ _ => pv 9)) (pe_lst (pa_cons pe_non pa_nil))) pe_int (fun _ _ => rfl))) (pss_one (ps_if (PW.pt (pw_and (pt_cmpR op_lt (pv 7) (pe_op op_add (pe_ix ix_list (pv 1) (pv 3) (fun _ _ => rfl)) (pe_ix ix_list (pv 2) (pe_un un_neg pe_int) (fun _ _ => rfl))) (nomark _)) (pw_and1 (pt_cmpR op_ne (pe_meth (E := fun _ _ _ => False) (pv 0) TS.cl mA GA hr bA .nil pass0X (pa_cons (pv 3) (pa_cons (pv 7) pa_nil))) (pv 8) (nomark _))))) (pss_one (ps_ret pe_bl)) pss_nil)))))))) (pss_one (ps_ret (pe_cmpR op_isN (pe_meth (E := fun _ _ _ => False) (pv 0) TS.cl mA GA hr bA .nil pass0X (pa_cons (pv 3) (pa_cons (pe_op op_sub (pe_ix ix_list (pv 1) (pv 3) (fun _ _ => rfl)) pe_int) pa_nil))) pe_non (nomark _))))), ?_⟩
    have okG := S.R.okG
    have okT := S.R.okT
    obtain ⟨dx, hob⟩ := S.ob
    have nSl : (sflds r sl wl n).lookup ("slot_of" : Str) = none := sflds_no _ _ _ _ (by decide +kernel) (by decide +kernel) (by decide +kernel) (by decide +kernel)
    have nAi : (sflds r sl wl n).lookup ("attempt_in" : Str) = none := sflds_no _ _ _ _ (by decide +kernel) (by decide +kernel) (by decide +kernel) (by decide +kernel)
    have hat : ∀ k, k < manyC gs 30 tl → AttOk gs tl k := fun k h => many_att (by decide) h
    have hm30 := many_le gs 30 tl
    have hm1 := many_pos gs (show 1 ≤ 30 by decide) tl
    generalize hmn : manyC gs 30 tl = m at hO hat hm30 hm1
    have hol : (offL gs tl m).length = m := offL_len gs tl m
    have hog : ∀ {k}, k < m → (offL gs tl m)[k]? = some (off gs tl k) := fun h => offL_get gs tl h
    have hod : ∀ {k}, k < m → (offL gs tl m).getD k 0 = off gs tl k := fun {k} h => by rw [List.getD_eq_getElem?_getD, hog h]; rfl
    have hHD : ∀ {k : Nat} {d : Int}, k < m → d ≤ off gs tl k → HD gs tl d := fun {k d} h1 h2 => HD_of okG okT (n := k) (by omega) (fun b _ => by omega) h2
    generalize hb : bs.getD c 0 = b0
    have hBc : bs[c]? = some b0 := by rw [← hb]; exact getD_get hc
    refine ⟨_, rfl, ofs, _, rfl, SqL.of hO, for_it (walk_enum (a := ofs) (xs := (offL gs tl m).map V.int)) (fun i σ H' => (∃ v4 v5 v6 v7 v8 v9 v10, σ = [some (.ref p), some (.ref sB), some (.ref ofs), some (.int (c : Int)), v4, v5, v6, v7, v8, v9, v10]) ∧ Same H H') ⟨⟨_, _, _, _, _, _, _, rfl⟩, Same.refl H⟩ (fun i σ H' _ p => SqL.of (p.2 _ _ hO)) ?_ ?_⟩
    · rintro i x σ H1 H2 hi ⟨⟨v4, v5, v6, v7, v8, v9, v10, rfl⟩, S1⟩ ⟨T2, x1, y1, rfl, hT, rfl, hx1, hy1⟩
      obtain rfl := Option.some.inj hx1
      rw [List.length_map, hol] at hi
      have hy1 : ((offL gs tl m).map V.int)[i]? = some y1 := hy1
      rw [List.getElem?_map, hog hi] at hy1
      obtain rfl := Option.some.inj hy1
      have sT := same_new (o := .tup [V.int (i : Nat), .int (off gs tl i)]) hT
      have S2 := S1.trans sT
      refine ⟨T2, _, rfl, SqT.of upd_same, rfl, _, _, rfl, _, _, rfl, rfl, ?_⟩
      generalize (upd H1 T2 (.tup [V.int (i : Nat), .int (off gs tl i)])) = H2 at S2 ⊢
      clear sT hT S1
      have A2 := S.kx (Kx.of S2)
      refine ⟨_, rfl, _, rfl, sB, _, _, _, rfl, rfl, SqL.of (S2 _ _ hB), at_map hBc, _, rfl, _, _, rfl, rfl, ?_⟩
      -- slot_of
      refine ⟨_, rfl, p, dx, _, rfl, S2 _ _ hob, nSl, _, rfl, _, rfl, a, p, r, g, t, o, sl, wl, gs, tl, bs, rs, ws, n, .int (c : Int), .int (i : Int), rfl, A2, .inr ⟨c, rfl, hc, .inr ⟨i, rfl, fun _ H3 S3 => ?_, fun b e hx => ?_, fun e => (hat i hi).fin e⟩⟩⟩
      rotate_left
      · have := hat i hi
        subst e
        have h2 : i ≤ 1000 := this
        omega
      rw [hb]
      refine ⟨_, rfl, rfl, _, rfl, iteFb ?_ ?_⟩
      · show (!decide (V.int (b0 + off gs tl i) = V.int (b0 + off gs tl i))) = false
        rw [decide_eq_true rfl]
        rfl
      have S23 := S2.trans S3
      have A3 := S.kx (Kx.of S23)
      refine ⟨_, rfl, p, dx, _, rfl, S23 _ _ hob, nAi, _, rfl, _, rfl, a, p, r, g, t, o, sl, wl, gs, tl, bs, rs, ws, n, .int (c : Int), .int (b0 + off gs tl i), rfl, A3, .inr ⟨c, rfl, hc, .inr ⟨_, rfl, ?_, fun v H4 S4 aa => ?_⟩⟩⟩
      · rw [hb]
        exact hHD hi (by omega)
      rw [hb] at aa
      obtain rfl := AA_hit okG okT (hat i hi) (by omega) aa
      refine ⟨_, rfl, rfl, _, rfl, iteFb ?_ ?_⟩
      · show (!decide (V.int (i : Int) = V.int (i : Int))) = false
        rw [decide_eq_true rfl]
        rfl
      have S24 := S23.trans S4
      clear S2 S3 S4 S23 A2 A3 aa
      -- what lies near
      refine ⟨_, rfl, _, _, rfl, rfl, _, rfl, _, _, rfl, rfl, (by show 2 ≤ sizeLine; decide), fun l hl => ?_⟩
      have sl2 := same_new (o := .lst [V.int (b0 + off gs tl i - 1), .int (b0 + off gs tl i + 1)]) hl
      refine ⟨l, rfl, ⟨_, SqL.of upd_same⟩, for_list (a := l) (xs := ([b0 + off gs tl i - 1, b0 + off gs tl i + 1] : List Int).map V.int) (fun j σ H' => (∃ v7 v8 v9 v10, σ = [some (.ref p), some (.ref sB), some (.ref ofs), some (.int (c : Int)), some (.int (i : Nat)), some (.int (off gs tl i)), some (.int (b0 + off gs tl i)), v7, v8, v9, v10]) ∧ Same H H' ∧ H' l = some (.lst (([b0 + off gs tl i - 1, b0 + off gs tl i + 1] : List Int).map V.int))) ⟨⟨_, _, _, _, rfl⟩, S24.trans sl2, upd_same⟩ (fun j σ H' _ p => SqL.of p.2.2) ?_ ?_⟩
      · rintro j x σ H5 hx ⟨⟨v7, v8, v9, v10, rfl⟩, S5, hl5⟩
        obtain ⟨nr, _, rfl⟩ := map_of hx
        clear hx
        have hO5 := S5 _ _ hO
        have hB5 := S5 _ _ hB
        refine ⟨_, rfl, ofs, _, rfl, SqL.of hO5, fun L hL => lc_it (walk_enum (a := ofs) (xs := (offL gs tl m).map V.int)) (fun q H' => Same H5 H' ∧ H' L = some (.lst (hitsTo (offL gs tl m) (nr - b0) q))) ⟨same_new hL, upd_same⟩ (fun q H' _ p => SqL.of (p.1 _ _ hO5)) (fun q z H6 H7 hq pv yy => ?_) (fun H6 pv => ?_)⟩
        · obtain ⟨S6, hL6⟩ := pv
          obtain ⟨T3, x3, y3, rfl, hT3, rfl, hx3, hy3⟩ := yy
          obtain rfl := Option.some.inj hx3
          rw [List.length_map, hol] at hq
          have hy3 : ((offL gs tl m).map V.int)[q]? = some y3 := hy3
          rw [List.getElem?_map, hog hq] at hy3
          obtain rfl := Option.some.inj hy3
          have sT := same_new (o := .tup [V.int (q : Nat), .int (off gs tl q)]) hT3
          refine ⟨T3, _, rfl, SqT.of upd_same, rfl, _, _, rfl, _, _, rfl, rfl, rfl, ?_⟩
          have hL7 := sT _ _ hL6
          refine ⟨_, rfl, _, rfl, sB, _, _, _, rfl, rfl, SqL.of (sT _ _ (S6 _ _ hB5)), at_map hBc, _, rfl, _, _, rfl, rfl, _, rfl, rfl, _, rfl, ?_⟩
          have est := hitsTo_succ (offL gs tl m) (nr - b0) q
          rw [hod hq] at est
          by_cases he : off gs tl q = nr - b0
          · rw [if_pos he] at est
            refine iteTb (decide_eq_true (congrArg V.int (by rw [he]; omega))) ⟨_, rfl, _, hL7, ?_, fun b u e => ?_, ?_⟩
            · have := hitsTo_len (offL gs tl m) (nr - b0) q
              show (hitsTo (offL gs tl m) (nr - b0) q).length < sizeLine
              exact small1000 (by omega)
            · rw [upd_ne (ne_of_none e hL)]
              exact sT _ _ (S6 _ _ e)
            · rw [upd_same, est]
          · rw [if_neg he] at est
            refine iteFb (decide_eq_false fun e => he (by have := V.int.inj e; omega)) ⟨S6.trans sT, ?_⟩
            rw [est]
            exact hL7
        obtain ⟨S6, hL6⟩ := pv
        rw [List.length_map] at hL6
        have hL6 : H6 L = some (.lst (hitsAt (offL gs tl m) (nr - b0))) := hL6
        refine ⟨(by show 1 ≤ sizeLine; decide), fun l2 hl2 => ?_⟩
        have s7 := same_new (o := .lst [V.non]) hl2
        have hlen : (hitsAt (offL gs tl m) (nr - b0)).length ≤ m := by
          have := hitsTo_len (offL gs tl m) (nr - b0) (offL gs tl m).length
          rw [hol] at this
          unfold hitsAt
          rw [hol]
          exact this
        refine ⟨L, l2, _, _, rfl, rfl, s7 _ _ hL6, upd_same, Nat.le_of_lt (small1000 (by show (hitsAt (offL gs tl m) (nr - b0)).length + 1 ≤ 1000; omega)), fun l3 hl3 => ?_⟩
        have s8 := same_new (o := .lst (hitsAt (offL gs tl m) (nr - b0) ++ [V.non])) hl3
        have S8 := ((S5.trans S6).trans s7).trans s8
        obtain ⟨due, hdue⟩ : ∃ due, (hitsAt (offL gs tl m) (nr - b0) ++ [V.non])[0]? = some due := ⟨_, List.getElem?_eq_getElem (by rw [List.length_append]; show 0 < _ + 1; omega)⟩
        refine ⟨l3, _, _, due, rfl, rfl, SqL.of upd_same, atI_nat (j := 0) hdue, ?_⟩
        have hl8 := s8 _ _ (s7 _ _ (S6 _ _ hl5))
        generalize (upd (upd H6 l2 (.lst [V.non])) l3 (.lst (hitsAt (offL gs tl m) (nr - b0) ++ [V.non]))) = H8 at S8 hl8 ⊢
        clear s7 s8 S6 hL6 hl2 hl3 hL
        refine ⟨_, rfl, _, rfl, _, rfl, sB, _, _, _, rfl, rfl, SqL.of (S8 _ _ hB), at_map hBc, _, rfl, _, rfl, ofs, _, _, _, rfl, rfl, SqL.of (S8 _ _ hO), at_back1 (v := .int (off gs tl (m - 1))) (by rw [List.length_map, hol]; omega) (by rw [List.length_map, hol, List.getElem?_map, hog (by omega)]; rfl), _, _, rfl, rfl, _, _, rfl, rfl, _, rfl, ?_⟩
        by_cases hlt : nr < b0 + off gs tl (m - 1)
        · refine iteTb (decide_eq_true hlt) ?_
          have A8 := S.kx (Kx.of S8)
          refine ⟨_, rfl, p, dx, _, rfl, S8 _ _ hob, nAi, _, rfl, _, rfl, a, p, r, g, t, o, sl, wl, gs, tl, bs, rs, ws, n, .int (c : Int), .int nr, rfl, A8, .inr ⟨c, rfl, hc, .inr ⟨_, rfl, ?_, fun v H9 S9 aa => ?_⟩⟩⟩
          · rw [hb]
            exact hHD (k := m - 1) (by omega) (by omega)
          rw [hb] at aa
          have := due_at okG okT hm1 hat (by omega) aa
          rw [hdue] at this
          obtain rfl := Option.some.inj this
          have hsc : scal due due = true := by
            obtain ⟨z, hf, hz⟩ := aa
            rcases hz with ⟨q, e1, _, e3⟩ | ⟨_, e3⟩
            · rw [e3, e1]; rfl
            · rw [e3]; rfl
          refine ⟨_, rfl, hsc, _, rfl, iteFb ?_ ⟨⟨_, _, _, _, rfl⟩, S8.trans S9, S9 _ _ hl8⟩⟩
          rw [decide_eq_true rfl]
          rfl
        · refine iteFb (decide_eq_false hlt) (iteF ⟨⟨_, _, _, _, rfl⟩, S8, hl8⟩)
      · rintro σ H5 ⟨⟨v7, v8, v9, v10, rfl⟩, S5, _⟩
        exact ⟨⟨_, _, _, _, _, _, _, rfl⟩, S5⟩
    · rintro σ H1 ⟨⟨v4, v5, v6, v7, v8, v9, v10, rfl⟩, S1⟩
      have A1 := S.kx (Kx.of S1)
      refine ⟨_, rfl, p, dx, _, rfl, S1 _ _ hob, nAi, _, rfl, _, rfl, _, rfl, sB, _, _, _, rfl, rfl, SqL.of (S1 _ _ hB), at_map hBc, _, _, rfl, rfl, a, p, r, g, t, o, sl, wl, gs, tl, bs, rs, ws, n, .int (c : Int), .int (b0 - 1), rfl, A1, .inr ⟨c, rfl, hc, .inr ⟨_, rfl, ?_, fun v H4 S4 aa => ?_⟩⟩⟩
      · rw [hb]
        exact hHD (k := 0) (by omega) (by have := off_nn okG okT (hat 0 (by omega)); omega)
      rw [hb] at aa
      obtain rfl := AA_miss aa fun k hk e => by
        have := off_nn okG okT hk
        omega
      refine ⟨rfl, ?_⟩
      show Q (.bl (decide (V.non = V.non))) H4
      rw [decide_eq_true rfl]
      exact k H4 (S1.trans S4)
end
end RS
/-! ### t[::-1] of a pair; lists held against the empty list -/
namespace HT
open PySem PySem.Spec PyProof.Rows
section
variable {prog : Program} {w : World} {A : Around} {E : Value → Shared → Prop} {s : Shared}
theorem sliceApplied_rev2 {sl : Addr} {tk : Tok} {Q : Int × Int × Nat → Shared → Prop} (hs : s.heap.IsSliceOf sl .none .none (.int (-1) tk)) (h : Q (1, -1, 2) s) :
    wpAny (model prog w) A (Builtin.Slice.sliceApplied (.ref sl) (pure (2 : Int))) Q E s := by
  obtain ⟨os, hos, hcs, hds⟩ := id hs
  unfold Builtin.Slice.sliceApplied Builtin.Slice.sliceFields
  refine wpAny_bind (wpAny_bind (wpAny_field hos hds (x := .none) rfl (wpAny_bind (wpAny_field hos hds (x := .none) rfl (wpAny_bind (wpAny_field hos hds (x := .int (-1) tk) rfl (wpAny_pure ?_)))))))
  refine wpAny_bind (slicePart_ (.int (-1) tk) ?_)
  show wpAny _ _ (if ((-1 : Int) == 0) = true then _ else _) _ _ s
  rw [if_neg (by decide)]
  refine wpAny_bind (slicePart_ .none (wpAny_bind (slicePart_ .none (wpAny_bind (wpAny_pure ?_)))))
  show wpAny _ _ (pure ((1 : Int), (-1 : Int), 2)) _ _ s
  exact wpAny_pure h
theorem getItem_tuple_rev2 {t sl : Addr} {x y : Value} {vs : Value} {Q : Value → Shared → Prop} (ht : IsTup s.heap t #[x, y]) (hs : s.heap.IsSliceOf sl .none .none vs) (ps : IsPart vs (some (-1)))
    (h : Q (.ref s.heap.objs.size) { s with heap := s.heap.push { cls := .type "tuple", data := .seq #[y, x] } }) : wpAny (model prog w) A (getItem (.ref t) (.ref sl)) Q E s := by
  cases ps with
  | int i tk =>
  have htake : sizeOk (.seq #[y, x]) := by
    show 2 ≤ sizeLine
    decide
  obtain ⟨os, hos, hcs, hds⟩ := id hs
  have hTs : s.TypeIs (.ref sl) "slice" := ⟨os, hos, hcs⟩
  unfold getItem
  try with_reducible refine wpAny_holding ?_
  first | refine wpAny_bind (wpAny_pure ?_) | skip
  refine wpAny_bind (wpAny_sequenceKey ht.typeIs (by decide) ?_)
  refine wpAny_bind (wpAny_callSpecial?_slot (name := Str.ofString "__getitem__") ht.typeIs PyProof.Rows.slot_tuple_getitem
    (wpAny_call_entry PyProof.Rows.slot_tuple_getitem ht.typeIs entry_tuple_getitem ?_ (args_tuple_getitem _ _)))
  show wpAny _ _ (Builtin.Tuple.tupleItemsOf (.ref t) >>= _) _ _ s
  refine wpAny_bind (tupleItemsOf_ ht ?_)
  refine wpAny_bind (wpAny_typeOf hTs ?_)
  rw [if_pos (by decide)]
  refine wpAny_bind (sliceApplied_rev2 hs ?_)
  show wpAny _ _ (if (((1 : Int) == 0 && (-1 : Int) == 1 && (2 : Nat) == 2) = true) then _ else _) _ _ s
  rw [if_neg (by decide)]
  first
    | exact wpAny_bind (m := Builtin.Tuple.tupleExact _) (wpAny_newObj_type (wpAny_pure ⟨_, rfl, wpAny_pure h⟩) htake)
    | exact wpAny_bind (m := Builtin.Tuple.tupleExact _) (wpAny_newObj_type (wpAny_bind (wpAny_pure (wpAny_pure ⟨_, rfl, wpAny_pure h⟩))) htake)
    | exact wpAny_bind (wpAny_bind (m := Builtin.Tuple.tupleExact _) (wpAny_newObj_type (wpAny_pure (wpAny_pure ⟨_, rfl, wpAny_pure h⟩)) htake))
    | exact wpAny_bind (wpAny_bind (m := Builtin.Tuple.tupleExact _) (wpAny_newObj_type (wpAny_pure ⟨_, rfl, wpAny_pure h⟩) htake))
end
end HT
namespace L2
open PySem PySem.Spec PyProof.Rows
section
variable {X : Cx} {pos : Pos}
def tRevT2 (K : PySem.W.Frag) (te : TE) : TE := fun σ H Q => te σ H fun x H1 => ∃ a v w, x = .ref a ∧ SqT K H1 a [v, w] ∧ ∀ p, H1 p = none → Q (.ref p) (upd H1 p (.tup [w, v]))
theorem pe_revT2 {e : Expr} {te : TE} {k : Nat} {p1 p2 p3 pos : Pos} (he : PE X e te) : PE X (.Subscript e (.Slice none none (some (.UnaryOp .USub (.Constant (.int 1) k p1) p2)) p3) pos) (tRevT2 X.K te) := by
  refine ⟨fun pins s σ H Q I h => ?_⟩
  refine Subscript_ (thn (he.run pins s σ H _ I h) fun v s1 ⟨x, H1, I1, r1, q1⟩ => ?_)
  obtain ⟨a, y, z, ex, hx, q⟩ := q1
  subst ex
  cases r1
  have hst : PO X (some (.UnaryOp .USub (.Constant (.int 1) k p1) p2)) (tPart (tUn (rU fun i => .int (-i)) (tC (.int 1)))) := po_some (pe_un un_neg pe_int)
  refine wpAny_Slice (thn (po_none.run pins s1 σ H1 (fun o H2 => o = none ∧ H2 = H1) I1 ⟨rfl, rfl⟩) fun vl s2 ⟨l, H2, I2, pl, el, e2⟩ => ?_)
  subst el e2
  refine thn (po_none.run pins s2 σ H2 (fun o H3 => o = none ∧ H3 = H2) I2 ⟨rfl, rfl⟩) fun vu s3 ⟨u, H3, I3, pu, eu, e3⟩ => ?_
  subst eu e3
  refine thn (hst.run pins s3 σ H3 (fun o H4 => o = some (-1) ∧ H4 = H3) I3 ⟨1, rfl, -1, rfl, rfl, rfl⟩) fun vs s4 ⟨o, H4, I4, ps, eo, e4⟩ => ?_
  subst eo e4
  cases pl
  cases pu
  have I5 : Inv X pins σ H4 { s4 with heap := s4.heap.push { cls := .type "slice", data := .fields #[.none, .none, vs] } } := I4.kept (t' := s4.toks) fun b ob q => Heap.get?_push_of_some _ q
  obtain ⟨its, r, ht, hz⟩ := I5.tuple hx
  cases r with
  | cons ry r =>
  cases r with
  | cons rz r =>
  cases r
  rename_i vy vz
  show wpAny (model X.prog X.w) X.A (subscriptTail e (.Slice none none (some (.UnaryOp .USub (.Constant (.int 1) k p1) p2)) p3) (.ref a) (.ref s4.heap.objs.size)) (EP X pins σ Q) X.xe { s4 with heap := s4.heap.push { cls := .type "slice", data := .fields #[.none, .none, vs] } }
  refine tail_any (ops := [.ref a, .ref s4.heap.objs.size]) ht.typeIs (PyProof.Rows.slot_tuple_getitem.lookup) ?_ (by with_unfolding_all rfl)
  refine HT.getItem_tuple_rev2 ht (Heap.IsSliceOf.new _ .none .none vs) ps ?_
  refine ⟨.ref _, _, I5.laid (t' := s4.toks) (o := .tup [z, y]) (fun b ob q => Heap.get?_push_of_some _ q) (Nat.le_refl _) ?_, rfl, q _ (I5.hok.fresh (Nat.le_refl _))⟩
  exact ⟨by show 2 ≤ sizeLine; decide, _, .cons rz (.cons ry .nil), IsTup.new _ _⟩
/-- a list, held against the empty list -/
def rNilB (K : PySem.W.Frag) (f : Bool → Bool) : R2 := fun x y H Q => ∃ a b xs, x = .ref a ∧ y = .ref b ∧ SqL K H a xs ∧ SqL K H b [] ∧ Q (.bl (f xs.isEmpty)) H
theorem op_eqNil (hu : X.A.units + 64 < cLine) : OpR X (compareOp .Eq) (rNilB X.K id) := by
  intro pins s σ H x y v u Q I rx ry h
  obtain ⟨a, b, xs, rfl, rfl, ha, hb, q⟩ := h
  cases xs with
  | nil => exact op_eqD hu pins s σ H _ _ v u Q I rx ry ⟨.list [], .list [], .lst ha .nil, .lst hb .nil, rfl, rfl, q⟩
  | cons z r =>
    cases rx
    cases ry
    obtain ⟨its, r1, h1, _⟩ := I.list ha
    obtain ⟨its2, r2, h2, _⟩ := I.list hb
    cases r2
    have e1 := r1.length
    refine SeqAt.eq_list_lengthsAt h1.isList h2.isList ?_ (by omega) ⟨.bl _, H, I, rfl, q⟩
    rw [List.size_toArray, ← e1]
    rfl
theorem op_neNil (hu : X.A.units + 64 < cLine) : OpR X (compareOp .NotEq) (rNilB X.K not) := by
  intro pins s σ H x y v u Q I rx ry h
  obtain ⟨a, b, xs, rfl, rfl, ha, hb, q⟩ := h
  cases xs with
  | nil => exact op_neD hu pins s σ H _ _ v u Q I rx ry ⟨.list [], .list [], .lst ha .nil, .lst hb .nil, rfl, rfl, q⟩
  | cons z r =>
    cases rx
    cases ry
    obtain ⟨its, r1, h1, _⟩ := I.list ha
    obtain ⟨its2, r2, h2, _⟩ := I.list hb
    cases r2
    have e1 := r1.length
    refine SeqAt.RcNeAt.lists_lengths h1.isList h2.isList ?_ (by omega) X.prog X.w _ _ ⟨.bl _, H, I, rfl, q⟩
    rw [List.size_toArray, ← e1]
    rfl
end
end L2
namespace RS
open PySem L2
/-- a later window begins at or behind an earlier one's end -/
theorem WinOk.apart {ws : List (Int × Int)} (h : WinOk ws) : ∀ (d i : Nat) (p q : Int × Int), ws[i]? = some p → ws[i + 1 + d]? = some q → p.2 ≤ q.1
  | 0, i, p, q, hp, hq => h.2 i p q hp hq
  | d + 1, i, p, q, hp, hq => by
    have hlt := (List.getElem?_eq_some_iff.mp hq).1
    have hm : ws[i + 1 + d]? = some ws[i + 1 + d] := List.getElem?_eq_getElem (by omega)
    have h1 := h.apart d i p _ hp hm
    have h2 := h.1 _ (List.mem_of_getElem? hm)
    have h3 := h.2 (i + 1 + d) _ q hm (by rw [show i + 1 + d + 1 = i + 1 + (d + 1) by omega]; exact hq)
    omega
theorem WinOk.lt {ws : List (Int × Int)} (h : WinOk ws) {i j : Nat} {p q : Int × Int} (hp : ws[i]? = some p) (hq : ws[j]? = some q) (hl : i < j) : p.2 ≤ q.1 :=
  h.apart (j - i - 1) i p q hp (by rw [show i + 1 + (j - i - 1) = j by omega]; exact hq)
/-- the window that holds a slot is the only one -/
theorem outV_at {ws : List (Int × Int)} (h : WinOk ws) {j : Nat} {f e x : Int} (hj : ws[j]? = some (f, e)) (h1 : f ≤ x) (h2 : x < e) : outV 0 ws x = .int (j : Int) := by
  have := outV_hit (i := 0) hj ⟨h1, h2⟩ (fun m f' e' hm hw => by
    have := h.lt hw hj hm
    have h1 : e' ≤ f := this
    omega)
  rw [Nat.zero_add] at this
  exact this
theorem outV_dp {K : PySem.W.Frag} (ws : List (Int × Int)) (x : Int) : ∃ d, (∀ H, Dp K H (outV 0 ws x) d) ∧ ((∃ z, d = .int z) ∨ d = .none) := by
  by_cases h : ∃ i : Int, outV 0 ws x = .int i
  · obtain ⟨i, h⟩ := h
    exact ⟨.int i, fun H => by rw [h]; exact .int i, .inl ⟨i, rfl⟩⟩
  · have go : ∀ (ws : List (Int × Int)) (n : Nat), (∃ i : Int, outV n ws x = .int i) ∨ outV n ws x = .non := by
      intro ws
      induction ws with
      | nil => exact fun n => .inr rfl
      | cons p r ih =>
        intro n
        obtain ⟨f, e⟩ := p
        show (∃ i : Int, (if f ≤ x ∧ x < e then V.int (n : Nat) else outV (n + 1) r x) = .int i) ∨ (if f ≤ x ∧ x < e then V.int (n : Nat) else outV (n + 1) r x) = .non
        by_cases hc : f ≤ x ∧ x < e
        · rw [if_pos hc]
          exact .inl ⟨_, rfl⟩
        · rw [if_neg hc]
          exact ih (n + 1)
    rcases go ws 0 with g | g
    · exact absurd g h
    · exact ⟨.none, fun H => by rw [g]; exact .non, .inr rfl⟩
/-- what the law expects of the slot behind a window -/
theorem touch_at {ws : List (Int × Int)} (h : WinOk ws) {j : Nat} {f e : Int} (hj : ws[j]? = some (f, e)) : (hitsAt (ws.map Prod.fst) e ++ [V.non])[0]? = some (outV 0 ws e) := by
  have hg : ∀ (k : Nat) (p : Int × Int), ws[k]? = some p → (ws.map Prod.fst).getD k 0 = p.1 := fun k p hk => by
    rw [List.getD_eq_getElem?_getD, List.getElem?_map, hk]
    rfl
  have hfe : f < e := h.1 _ (List.mem_of_getElem? hj)
  unfold hitsAt
  rw [List.length_map]
  cases hl : (List.range ws.length).filter fun k => decide ((ws.map Prod.fst).getD k 0 = e) with
  | nil =>
    rw [List.filter_eq_nil_iff] at hl
    have : outV 0 ws e = .non := outV_miss fun m f' e' hm z => by
      have hlt := (List.getElem?_eq_some_iff.mp hm).1
      have hfe' : f' < e' := h.1 _ (List.mem_of_getElem? hm)
      rcases Nat.lt_trichotomy m j with hmj | hmj | hmj
      · have := h.lt hm hj hmj
        have : e' ≤ f := this
        omega
      · subst hmj
        rw [hj] at hm
        cases hm
        omega
      · have := h.lt hj hm hmj
        have : e ≤ f' := this
        refine hl m (List.mem_range.mpr hlt) (decide_eq_true ?_)
        rw [hg m _ hm]
        show f' = e
        omega
    rw [this]
    rfl
  | cons k r =>
    have hk : k ∈ (List.range ws.length).filter fun k => decide ((ws.map Prod.fst).getD k 0 = e) := by rw [hl]; exact List.mem_cons_self
    rw [List.mem_filter, List.mem_range] at hk
    have hw : ws[k]? = some ws[k] := List.getElem?_eq_getElem hk.1
    have h1 : (ws[k]).1 = e := by
      rw [← hg k _ hw]
      exact of_decide_eq_true hk.2
    have h2 := h.1 _ (List.mem_of_getElem? hw)
    rw [outV_at h (f := (ws[k]).1) (e := (ws[k]).2) hw (by omega) (by omega)]
    rfl
theorem hitsTo_le {os : List Int} {d : Int} : (hitsAt os d).length ≤ os.length := hitsTo_len os d os.length
section
variable {P : Program} {w : World} {K : PySem.W.Frag} {mg : Str → Option Value} {base : Heap}
def spWR (C CS : Addr) : Sp := fun vs H Q _ => ∃ (a p r g t o s w wB : Addr) (gs : List Int) (tl : Tl) (bs : List Int) (rs rsB : List V) (ws : List (Int × Int)) (n : Int), vs = [.ref p, .ref wB] ∧ SceneAt C CS a H p r g t o s w gs tl bs rs ws n ∧ H wB = some (.lst rsB) ∧ Tups a H rsB ws ∧ ∀ H', Same H H' → Q (.bl true) H'
theorem scWR : FnScope ["_law_made_here", "_law_windows_here", "_law_at", "_law_first", "_law_after", "_law_touching", "_law_k", "_law_window"] ["_law_made_here", "_law_windows_here"] (defScope s_law_windows_right) := ⟨rfl, rfl, rfl, by decide +kernel, rfl, by decide +kernel, by decide +kernel⟩
theorem Tups.same {a : Addr} {H H' : Hp} {rs : List V} {ws : List (Int × Int)} (t : Tups a H rs ws) (s : Same H H') : Tups a H' rs ws := t.kx (Kx.of s)
theorem ok_WR {f C CS CSl fO : Addr} {fd fdO : FuncData} (F : Fun K "_law_windows_right" "_law_windows_right" s_law_windows_right f fd) (TS : TxtS K mg CS)
    (GO : FnOk P w K mg base (L2.CX P w) 4 fO fdO ["self", "slot"] (spOut K C CS CSl)) (bO : Binds K fdO ["self", "slot"] []) (mO : Meth K CS "outage_at" fO) : FnOk P w K mg base CX0 5 f fd ["_law_made_here", "_law_windows_here"] (spWR C CS) := by
  refine F.ok scWR (fun vs H Q E h => ?_) (fun cdv A outer s H vs Q E hr h => ?_)
  · obtain ⟨a, p, r, g, t, o, s, w, wB, gs, tl, bs, rs, rsB, ws, n, rfl, _⟩ := h
    rfl
  · obtain ⟨a, p, r, g, t, o, sl, wl, wB, gs, tl, bs, rs, rsB, ws, n, rfl, S, hB, tB, k⟩ := h
    refine ⟨_, (pss_cons (ps_for PassesOwn.never rfl (pi_enum (by rfl) TS.enum (pa_cons (pv 1) pa_nil)) (pg_tup rfl (pgs_cons (pg_name (i := 2) scWR.nd rfl (Or.inl rfl)) (pgs_cons (pg_tup rfl (pgs_cons (pg_name (i := 3) scWR.nd rfl (Or.inl rfl)) (pgs_cons (pg_name (i := 4) scWR.nd rfl (Or.inr rfl)) pgs_nil))) pgs_nil)))
        (pss_cons (ps_set (i := 5) scWR.nd rfl (Or.inl rfl) (pe_ix ix_list (pe_op op_cat (pe_lc (own := [("_law_k", 6), ("_law_window", 7)]) (g := gTup K 2 (gCons (gName 6) (gCons (gName 7) gNil))) rfl scWR.nd (pi_enum (by rfl) TS.enum (pa_cons (pv 1) pa_nil)) (blkOk_by (own := [("_law_k", 6), ("_law_window", 7)]) (N := ["_law_made_here", "_law_windows_here", "_law_at", "_law_first", "_law_after", "_law_touching", "_law_k", "_law_window"]) (sc := defScope s_law_windows_right) (by decide +kernel))
                (fun _ _ _ _ _ => pg_tup rfl (pgs_cons (pg_name (i := 6) scWR.nd rfl (Or.inl rfl)) (pgs_cons (pg_name (i := 7) scWR.nd rfl (Or.inl rfl)) pgs_nil))) (fun _ _ _ _ _ => pts_one (pt_cmpR op_eq (pe_ix (r := rIxT K) ix_tup (pv 7) pe_int (fun _ _ => rfl)) (pv 4) (nomark _))) (fun _ _ _ _ _ => pv 6)) (pe_lst (pa_cons pe_non pa_nil))) pe_int (fun _ _ => rfl))) (pss_cons (ps_if (pt_cmpR (op_neD hr.units) (pe_lst (pa_cons (pe_meth (E := fun _ _ _ => False) (pv 0) TS.cl mO GO hr bO .nil pass0X (pa_cons (pv 3) pa_nil)) (pa_cons (pe_meth (E := fun _ _ _ => False) (pv 0) TS.cl mO GO hr bO .nil pass0X (pa_cons (pe_op op_sub (pv 4) pe_int) pa_nil)) (pa_cons (pe_meth (E := fun _ _ _ => False) (pv 0) TS.cl mO GO hr bO .nil pass0X (pa_cons (pv 4) pa_nil)) pa_nil)))) (pe_lst (pa_cons (pv 2) (pa_cons (pv 2) (pa_cons (pv 5) pa_nil)))) (nomark _)) (pss_one (ps_ret pe_bl)) pss_nil) (pss_one (ps_if (PW.pt (pw_and (pt_cmpR op_eq (pv 2) pe_int (nomark _)) (pw_and1 (pt_cmpR op_notN (pe_meth (E := fun _ _ _ => False) (pv 0) TS.cl mO GO hr bO .nil pass0X (pa_cons (pe_op op_sub (pv 3) pe_int) pa_nil)) pe_non (nomark _))))) (pss_one (ps_ret pe_bl)) pss_nil))))) (pss_one (ps_ret (pe_or (pe_cmpR (op_neNil hr.units) (pv 1) (pe_lst pa_nil) (nomark _)) (pe_one (pe_cmpR op_isN (pe_meth (E := fun _ _ _ => False) (pv 0) TS.cl mO GO hr bO .nil pass0X (pa_cons pe_int pa_nil)) pe_non (nomark _))))))), ?_⟩
    obtain ⟨dx, hob⟩ := S.ob
    have nO : (sflds r sl wl n).lookup ("outage_at" : Str) = none := sflds_no _ _ _ _ (by decide +kernel) (by decide +kernel) (by decide +kernel) (by decide +kernel)
    have wo := S.ok.wo
    have hlen := tB.len
    have hw10 := S.ok.w10
    refine ⟨_, rfl, wB, _, rfl, SqL.of hB, for_it (walk_enum (a := wB) (xs := rsB)) (fun i σ H' => (∃ v2 v3 v4 v5 v6 v7, σ = [some (.ref p), some (.ref wB), v2, v3, v4, v5, v6, v7]) ∧ Same H H') ⟨⟨_, _, _, _, _, _, rfl⟩, Same.refl H⟩ (fun i σ H' _ p => SqL.of (p.2 _ _ hB)) ?_ ?_⟩
    · rintro i x σ H1 H2 hi ⟨⟨v2, v3, v4, v5, v6, v7, rfl⟩, S1⟩ ⟨T2, x1, y1, rfl, hT, rfl, hx1, hy1⟩
      obtain rfl := Option.some.inj hx1
      obtain ⟨q, f, e, rfl, hwi, nq, hq, hfe⟩ := tB.ok wo hy1
      have sT := same_new (o := .tup [V.int (i : Nat), .ref q]) hT
      have S2 := S1.trans sT
      have hq2 := S2 _ _ hq
      refine ⟨T2, _, rfl, SqT.of upd_same, rfl, _, _, rfl, _, _, rfl, ⟨q, _, rfl, SqT.of hq2, rfl, _, _, rfl, _, _, rfl, rfl, rfl, ?_⟩⟩
      generalize (upd H1 T2 (.tup [V.int (i : Nat), .ref q])) = H2 at S2 hq2 ⊢
      clear sT hT S1
      have hB2 := S2 _ _ hB
      have tB2 := tB.same S2
      refine ⟨_, rfl, wB, _, rfl, SqL.of hB2, fun L hL => lc_it (walk_enum (a := wB) (xs := rsB)) (fun j H' => Same H2 H' ∧ H' L = some (.lst (hitsTo (ws.map Prod.fst) e j))) ⟨same_new hL, upd_same⟩ (fun j H' _ p => SqL.of (p.1 _ _ hB2)) (fun j z H6 H7 hj pv yy => ?_) (fun H6 pv => ?_)⟩
      · obtain ⟨S6, hL6⟩ := pv
        obtain ⟨T3, x3, y3, rfl, hT3, rfl, hx3, hy3⟩ := yy
        obtain rfl := Option.some.inj hx3
        obtain ⟨q3, f3, e3, rfl, hwj, nq3, hq3, hfe3⟩ := tB2.ok wo hy3
        have sT := same_new (o := .tup [V.int (j : Nat), .ref q3]) hT3
        refine ⟨T3, _, rfl, SqT.of upd_same, rfl, _, _, rfl, _, _, rfl, rfl, rfl, ?_⟩
        have hL7 := sT _ _ hL6
        refine ⟨_, rfl, q3, _, _, _, rfl, rfl, SqT.of (sT _ _ (S6 _ _ hq3)), rfl, _, rfl, rfl, _, rfl, ?_⟩
        have est := hitsTo_succ (ws.map Prod.fst) e j
        rw [show (ws.map Prod.fst).getD j 0 = f3 by rw [List.getD_eq_getElem?_getD, List.getElem?_map, hwj]; rfl] at est
        by_cases he : f3 = e
        · rw [if_pos he] at est
          refine iteTb (decide_eq_true (congrArg V.int he)) ⟨_, rfl, _, hL7, ?_, fun b u e => ?_, ?_⟩
          · have := hitsTo_len (ws.map Prod.fst) e j
            show (hitsTo (ws.map Prod.fst) e j).length < sizeLine
            exact small1000 (by omega)
          · rw [upd_ne (ne_of_none e hL)]
            exact sT _ _ (S6 _ _ e)
          · rw [upd_same, est]
        · rw [if_neg he] at est
          refine iteFb (decide_eq_false fun z => he (V.int.inj z)) ⟨S6.trans sT, ?_⟩
          rw [est]
          exact hL7
      obtain ⟨S6, hL6⟩ := pv
      rw [show rsB.length = (ws.map Prod.fst).length by rw [List.length_map]; exact hlen] at hL6
      have hL6 : H6 L = some (.lst (hitsAt (ws.map Prod.fst) e)) := hL6
      refine ⟨(by show 1 ≤ sizeLine; decide), fun l2 hl2 => ?_⟩
      have s7 := same_new (o := .lst [V.non]) hl2
      have hle : (hitsAt (ws.map Prod.fst) e).length ≤ 10 := by
        have := hitsTo_le (os := ws.map Prod.fst) (d := e)
        rw [List.length_map] at this
        omega
      refine ⟨L, l2, _, _, rfl, rfl, s7 _ _ hL6, upd_same, Nat.le_of_lt (small1000 (by show (hitsAt (ws.map Prod.fst) e).length + 1 ≤ 1000; omega)), fun l3 hl3 => ?_⟩
      have s8 := same_new (o := .lst (hitsAt (ws.map Prod.fst) e ++ [V.non])) hl3
      have S8 := ((S2.trans S6).trans s7).trans s8
      refine ⟨l3, _, _, _, rfl, rfl, SqL.of upd_same, atI_nat (j := 0) (touch_at wo hwi), ?_⟩
      generalize (upd (upd H6 l2 (.lst [V.non])) l3 (.lst (hitsAt (ws.map Prod.fst) e ++ [V.non]))) = H8 at S8 ⊢
      clear s7 s8 S6 hL6 hl2 hl3 hL
      -- the three slots
      have o1 : outV 0 ws f = .int (i : Int) := outV_at wo hwi (by omega) hfe
      have o2 : outV 0 ws (e - 1) = .int (i : Int) := outV_at wo hwi (by omega) (by omega)
      refine ⟨_, rfl, p, dx, _, rfl, S8 _ _ hob, nO, _, rfl, a, p, r, g, t, o, sl, wl, gs, tl, bs, rs, ws, n, _, rfl, S.kx (Kx.of S8), .inr ⟨_, rfl, fun H9 S9 => ?_⟩⟩
      have S9 := S8.trans S9
      refine ⟨_, rfl, p, dx, _, rfl, S9 _ _ hob, nO, _, rfl, _, _, rfl, rfl, a, p, r, g, t, o, sl, wl, gs, tl, bs, rs, ws, n, _, rfl, S.kx (Kx.of S9), .inr ⟨_, rfl, fun HA SA => ?_⟩⟩
      have SA := S9.trans SA
      refine ⟨_, rfl, p, dx, _, rfl, SA _ _ hob, nO, _, rfl, a, p, r, g, t, o, sl, wl, gs, tl, bs, rs, ws, n, _, rfl, S.kx (Kx.of SA), .inr ⟨_, rfl, fun HB SB => ?_⟩⟩
      have SB := SA.trans SB
      rw [o1, o2]
      refine ⟨(by show 3 ≤ sizeLine; decide), fun l4 hl4 => ?_⟩
      have s4 := same_new (o := .lst [V.int (i : Int), V.int (i : Int), outV 0 ws e]) hl4
      refine ⟨_, rfl, _, rfl, _, rfl, (by show 3 ≤ sizeLine; decide), fun l5 hl5 => ?_⟩
      have s5 := same_new (o := .lst [V.int (i : Int), V.int (i : Int), outV 0 ws e]) hl5
      obtain ⟨dd, hdd, hpl⟩ := outV_dp (K := K) ws e
      have hsh : SeqAt.shaped (.list [.int (i : Int), .int (i : Int), dd]) = true := by rcases hpl with ⟨z, rfl⟩ | rfl <;> rfl
      refine ⟨.list [.int (i : Int), .int (i : Int), dd], .list [.int (i : Int), .int (i : Int), dd], .lst (SqL.of (s5 _ _ upd_same)) (.cons (.int _) (.cons (.int _) (.cons (hdd _) .nil))), .lst (SqL.of upd_same) (.cons (.int _) (.cons (.int _) (.cons (hdd _) .nil))), hsh, hsh, _, rfl, iteFb ?_ ?_⟩
      · have : PyData.eqv (.list [.int (i : Int), .int (i : Int), dd]) (.list [.int (i : Int), .int (i : Int), dd]) = true := by
          rcases hpl with ⟨z, rfl⟩ | rfl <;> simp [PyData.eqv, PyData.eqvAll]
        rw [this]
        rfl
      have SC := (SB.trans s4).trans s5
      generalize (upd (upd HB l4 (.lst [V.int (i : Int), V.int (i : Int), outV 0 ws e])) l5 (.lst [V.int (i : Int), V.int (i : Int), outV 0 ws e])) = HC at SC ⊢
      refine ⟨_, rfl, rfl, _, rfl, ?_⟩
      by_cases hi0 : (i : Int) = 0
      · refine iteTb (decide_eq_true (congrArg V.int hi0)) ?_
        refine ⟨_, rfl, p, dx, _, rfl, SC _ _ hob, nO, _, rfl, _, _, rfl, rfl, a, p, r, g, t, o, sl, wl, gs, tl, bs, rs, ws, n, _, rfl, S.kx (Kx.of SC), .inr ⟨_, rfl, fun HD SD => ?_⟩⟩
        have oN : outV 0 ws (f - 1) = .non := outV_miss fun m f' e' hm z => by
          have hfe' : f' < e' := wo.1 _ (List.mem_of_getElem? hm)
          by_cases hm0 : m = i
          · subst hm0
            rw [hwi] at hm
            cases hm
            omega
          · have := wo.lt hwi hm (by omega)
            have : e ≤ f' := this
            omega
        rw [oN]
        refine ⟨rfl, _, rfl, iteFb ?_ ⟨⟨_, _, _, _, _, _, rfl⟩, SC.trans SD⟩⟩
        rw [decide_eq_true rfl]
        rfl
      · exact iteFb (decide_eq_false fun z => hi0 (V.int.inj z)) (iteF ⟨⟨_, _, _, _, _, _, rfl⟩, SC⟩)
    · rintro σ H1 ⟨⟨v2, v3, v4, v5, v6, v7, rfl⟩, S1⟩
      refine ⟨_, rfl, (by show 0 ≤ sizeLine; decide), fun l hl => ?_⟩
      have s2 := same_new (o := .lst ([] : List V)) hl
      have S2 := S1.trans s2
      refine ⟨wB, l, _, rfl, rfl, SqL.of (S2 _ _ hB), SqL.of upd_same, _, rfl, ?_⟩
      cases rsB with
      | cons q r => exact k _ S2
      | nil =>
        have : ws = [] := List.eq_nil_of_length_eq_zero hlen.symm
        subst this
        refine iteF ?_
        refine ⟨_, rfl, p, dx, _, rfl, S2 _ _ hob, nO, a, p, r, g, t, o, sl, wl, gs, tl, bs, rs, [], n, _, rfl, S.kx (Kx.of S2), .inr ⟨_, rfl, fun HD SD => ?_⟩⟩
        refine ⟨rfl, ?_⟩
        exact k _ (S2.trans SD)
end
end RS
namespace RS
open PySem L2
/-! ### slices -/
theorem cut_to (xs : List V) (n : Nat) : cutV xs none (some (n : Int)) = xs.take n := by
  unfold cutV
  rw [HT.sIx_none, HT.sIx_nat, List.drop_zero, Nat.sub_zero]
  by_cases h : n ≤ xs.length
  · rw [Nat.min_eq_left h]
  · rw [Nat.min_eq_right (by omega), List.take_length, List.take_of_length_le (by omega)]
theorem cut_mid (xs : List V) (i n : Nat) : cutV xs (some (i : Int)) (some (n : Int)) = (xs.drop i).take (n - i) := by
  unfold cutV
  rw [HT.sIx_nat, HT.sIx_nat]
  by_cases h : i ≤ xs.length
  · rw [Nat.min_eq_left h]
    by_cases h2 : n ≤ xs.length
    · rw [Nat.min_eq_left h2]
    · rw [Nat.min_eq_right (by omega), List.take_of_length_le (by rw [List.length_drop]; exact Nat.le_refl _), List.take_of_length_le (by rw [List.length_drop]; omega)]
  · rw [show min i xs.length = xs.length by omega, List.drop_of_length_le (Nat.le_refl _), List.drop_of_length_le (show xs.length ≤ i by omega)]
    simp
theorem cut_back (xs : List V) {m : Nat} (h0 : 0 < m) (h : m ≤ xs.length) : cutV xs (some (-(m : Int))) none = xs.drop (xs.length - m) := by
  have e : HT.sIx xs.length 0 (some (-(m : Int))) = xs.length - m := by
    show (if -(m : Int) < 0 then (-(m : Int) + (xs.length : Int)).toNat else min (-(m : Int)).toNat xs.length) = _
    rw [if_pos (by omega)]
    omega
  unfold cutV
  rw [e, HT.sIx_none, List.take_of_length_le (by rw [List.length_drop]; exact Nat.le_refl _)]
theorem cut_from (xs : List V) {i : Nat} (h : i ≤ xs.length) : cutV xs (some (i : Int)) none = xs.drop i := by
  unfold cutV
  rw [HT.sIx_nat, HT.sIx_none, Nat.min_eq_left h, List.take_of_length_le (by rw [List.length_drop]; exact Nat.le_refl _)]
end RS
namespace RS
open PySem L2
theorem pre_drop (gs : List Int) (i j : Nat) : ((gs.drop i).take j).sum = pre gs (i + j) - pre gs i := by
  have h := sum_take_drop (gs.take (i + j)) i
  have e1 : (gs.take (i + j)).take i = gs.take i := by rw [List.take_take, Nat.min_eq_left (by omega)]
  have e2 : (gs.take (i + j)).drop i = (gs.drop i).take j := by rw [List.drop_take, Nat.add_sub_cancel_left]
  rw [e1, e2] at h
  unfold pre
  omega
/-- the slot of a far attempt, as the law adds it up -/
theorem far_off {gs : List Int} {m : Nat} (h1 : 1 ≤ m) (h2 : m ≤ gs.length) (z : Nat) : (gs ++ (gs.drop (gs.length - m)).take (z % m)).sum + ((z : Int) / (m : Int)) * per gs m = off gs (.rep m) (gs.length + z) := by
  rw [off_rep h1 h2 (by omega), List.sum_append, pre_drop, Nat.add_sub_cancel_left]
  have e : gs.sum = pre gs gs.length := by unfold pre; rw [List.take_length]
  have e2 : ((z : Int) / (m : Int)) = ((z / m : Nat) : Int) := rfl
  rw [e, e2, Int.add_mul, Int.one_mul]
  have : per gs m = pre gs gs.length - pre gs (gs.length - m) := rfl
  omega
theorem far_gap {gs : List Int} {m : Nat} (h1 : 1 ≤ m) (h2 : m ≤ gs.length) (z : Nat) : (gs.drop (gs.length - m))[z % m]? = some (gapf gs (.rep m) (gs.length + z)) := by
  have hlt : z % m < m := Nat.mod_lt _ h1
  have e : gapf gs (.rep m) (gs.length + z) = gs.getD (gs.length - m + z % m) 0 := by
    unfold gapf
    rw [if_neg (by omega)]
    show gs.getD (gs.length - m + (gs.length + z - gs.length) % m) 0 = _
    rw [Nat.add_sub_cancel_left]
  rw [e, List.getElem?_drop]
  exact getD_get (by omega)
section
variable {P : Program} {w : World} {K : PySem.W.Frag} {mg : Str → Option Value} {base : Heap}
def spFQ (C CS : Addr) : Sp := fun vs H Q _ => ∃ (a p r g t o s w u g1 t1 s1 w1 : Addr) (b : Nat) (gs : List Int) (m : Nat) (bs : List Int) (rs rs1 : List V) (ws : List (Int × Int)) (n : Int) (c : Nat), vs = [.ref a, .ref p, .ref u, .int (c : Int)] ∧ SceneAt C CS a H p r g t o s w gs (.rep m) bs rs ws n ∧ Parts a H u g1 t1 s1 w1 n gs (.rep m) bs rs1 ws ∧ Src H a b ∧ b ≤ 90000 ∧ c < bs.length ∧ ∀ H', Kx a H H' → Src H' a (b + 4) → Q (.bl true) H'
theorem scFQ : FnScope ["_law_well_here", "_law_made_here", "_law_parts_here", "_law_client", "_law_steps", "_law_ending", "_law_begins", "_law_windows_here", "_law_long", "_law_late", "_law_most", "_law_more", "_law_rest", "_law_attempt", "_law_slot", "_law_near"] ["_law_well_here", "_law_made_here", "_law_parts_here", "_law_client"] (defScope s_law_far_right) := ⟨rfl, rfl, rfl, by decide +kernel, rfl, by decide +kernel, by decide +kernel⟩
theorem ok_FQ {f C CS CA CL CC CSl fS fA fN : Addr} {fd fdS fdA fdN : FuncData} (F : Fun K "_law_far_right" "_law_far_right" s_law_far_right f fd) (T : Txt K mg C) (TS : TxtS K mg CS)
    (GN : FnOk P w K mg base CX0 2 fN fdN ["_law_well_here", "_law_many"] spNext) (bN : Binds K fdN ["_law_well_here", "_law_many"] []) (mN : mg "_law_draw" = some (.ref fN)) (kN : PySem.W.keepIn K (.ref fN) = true)
    (GS : FnOk P w K mg base (L2.CX P w) 5 fS fdS ["self", "client", "attempt"] (spSlot K C CS CA CL CC)) (bS : Binds K fdS ["self", "client", "attempt"] []) (mS : Meth K CS "slot_of" fS)
    (GA : FnOk P w K mg base (L2.CX P w) 7 fA fdA ["self", "client", "slot"] (spAin K C CS CSl CC)) (bA : Binds K fdA ["self", "client", "slot"] []) (mA : Meth K CS "attempt_in" fA) : FnOk P w K mg base CX0 8 f fd ["_law_well_here", "_law_made_here", "_law_parts_here", "_law_client"] (spFQ C CS) := by
  refine F.ok scFQ (fun vs H Q E h => ?_) (fun cdv A outer s H vs Q E hr h => ?_)
  · obtain ⟨a, p, r, g, t, o, s, w, u, g1, t1, s1, w1, b, gs, m, bs, rs, rs1, ws, n, c, rfl, _⟩ := h
    rfl
  · obtain ⟨a, p, r, g, t, o, sl, wl, u, g1, t1, s1, w1, b, gs, m, bs, rs, rs1, ws, n, c, rfl, S, B, R, hb, hc, k⟩ := h
    have hr5 := hr.mono (show 5 ≤ 7 by decide)
    have hr2 := hr.mono (show 2 ≤ 7 by decide)
    refine ⟨_, (pss_cons (ps_asg (pv 2) (pg_tup rfl (pgs_cons (pg_name (i := 4) scFQ.nd rfl (Or.inl rfl)) (pgs_cons (pg_name (i := 5) scFQ.nd rfl (Or.inl rfl)) (pgs_cons (pg_name (i := 6) scFQ.nd rfl (Or.inl rfl)) (pgs_cons (pg_name (i := 7) scFQ.nd rfl (Or.inl rfl)) (pgs_cons (pg_name (i := 8) scFQ.nd rfl (Or.inl rfl)) pgs_nil))))))) (pss_cons (ps_set (i := 9) scFQ.nd rfl (Or.inl rfl) (pe_slice sl_list (pv 4) (po_some (pe_op op_sub (pe_callB call_len_seq (by rfl) T.len (by decide +kernel) (pa_cons (pv 4) pa_nil)) (pe_ix ix_tup (pv 5) pe_int (fun _ _ => rfl)))) po_none)) (pss_cons (ps_for PassesOwn.never rfl (pi_tup (pe_tup (pa_cons (pe_op op_pow pe_int pe_int) (pa_cons (pe_op op_pow pe_int pe_int) pa_nil)))) (pg_name (i := 10) scFQ.nd rfl (Or.inl rfl))
        (pss_cons (ps_set (i := 11) scFQ.nd rfl (Or.inl rfl) (pe_call GN hr2 rfl mN kN bN .nil pass0 (pa_cons (pv 0) (pa_cons (pv 10) pa_nil)))) (pss_cons (ps_par (i := 12) (j := 13) (by rfl) scFQ.nd rfl rfl (by decide) rfl rfl (pa_cons (pe_op op_mod (pe_callTy call_int1 (by rfl) T.int (by decide +kernel) (pa_cons (pv 11) pa_nil)) (pe_callB call_len_seq (by rfl) T.len (by decide +kernel) (pa_cons (pv 9) pa_nil))) (pa_cons (pe_op op_add (pe_callB call_len_seq (by rfl) T.len (by decide +kernel) (pa_cons (pv 4) pa_nil)) (pv 11)) pa_nil)) (by rfl)) (pss_cons (ps_set (i := 14) scFQ.nd rfl (Or.inl rfl) (pe_op op_add (pe_ix ix_list (pv 6) (pv 3) (fun _ _ => rfl)) (pe_callB (cr_sum rfl) (by rfl) T.sum (by decide +kernel) (pa_cons (pe_op op_cat (pv 4) (pe_slice sl_list (pv 9) po_none (po_some (pv 12)))) pa_nil)))) (pss_cons (ps_set (i := 14) scFQ.nd rfl (Or.inl rfl) (pe_op op_add (pv 14) (pe_op op_mul (pe_op op_fdiv (pv 11) (pe_callB call_len_seq (by rfl) T.len (by decide +kernel) (pa_cons (pv 9) pa_nil))) (pe_callB (cr_sum rfl) (by rfl) T.sum (by decide +kernel) (pa_cons (pv 9) pa_nil))))) (pss_cons (ps_if (PW.pt (pw_or (pt_cmpR op_ne (pe_meth (E := fun _ _ _ => False) (pv 1) TS.cl mS GS hr5 bS .nil pass0X (pa_cons (pv 3) (pa_cons (pv 13) pa_nil))) (pv 14) (nomark _)) (pw_or1 (pt_cmpR op_ne (pe_meth (E := fun _ _ _ => False) (pv 1) TS.cl mA GA hr bA .nil pass0X (pa_cons (pv 3) (pa_cons (pv 14) pa_nil))) (pv 13) (nomark _))))) (pss_one (ps_ret pe_bl)) pss_nil) (pss_cons (ps_if (pt_cmpR op_ne (pe_meth (E := fun _ _ _ => False) (pv 1) TS.cl mA GA hr bA .nil pass0X (pa_cons (pv 3) (pa_cons (pe_op op_add (pv 14) (pe_ix ix_list (pv 9) (pv 12) (fun _ _ => rfl))) pa_nil))) (pe_op op_add (pv 13) pe_int) (nomark _)) (pss_one (ps_ret pe_bl)) pss_nil) (pss_cons (ps_set (i := 15) scFQ.nd rfl (Or.inl rfl) (pe_call GN hr2 rfl mN kN bN .nil pass0 (pa_cons (pv 0) (pa_cons (pe_ix ix_list (pv 9) (pv 12) (fun _ _ => rfl)) pa_nil)))) (pss_one (ps_if (PW.pt (pw_and (pt_cmpR op_gt (pv 15) pe_int (nomark _)) (pw_and1 (pt_cmpR op_notN (pe_meth (E := fun _ _ _ => False) (pv 1) TS.cl mA GA hr bA .nil pass0X (pa_cons (pv 3) (pa_cons (pe_op op_add (pv 14) (pv 15)) pa_nil))) pe_non (nomark _))))) (pss_one (ps_ret pe_bl)) pss_nil)))))))))) (pss_one (ps_ret pe_bl))))), ?_⟩
    have okG := S.R.okG
    have okT := S.R.okT
    have hm1 : 1 ≤ m := okT.1
    have hm2 : m ≤ gs.length := okT.2
    have hg20 := okG.1
    refine ⟨_, rfl, u, _, rfl, SqT.of B.hu, rfl, _, _, rfl, _, _, rfl, _, _, rfl, _, _, rfl, _, _, rfl, rfl, ?_⟩
    refine ⟨_, rfl, _, rfl, g1, _, rfl, .inl (SqL.of B.hg), _, rfl, t1, _, _, _, rfl, rfl, SqT.of B.ht, atI_nat (j := 1) rfl, _, _, rfl, rfl, ?_⟩
    refine ⟨_, rfl, g1, _, rfl, SqL.of B.hg, fun l hl => ?_⟩
    have ecut : cutV (gs.map V.int) (some (((gs.map V.int).length : Nat) - (m : Int))) none = (gs.drop (gs.length - m)).map V.int := by
      rw [List.length_map, show ((gs.length : Nat) : Int) - (m : Int) = ((gs.length - m : Nat) : Int) by omega, cut_from _ (by rw [List.length_map]; omega), List.map_drop]
    rw [ecut]
    have hla : l ≠ a := (R.new hl).symm
    have sa1 := same_new (o := .lst ((gs.drop (gs.length - m)).map V.int)) hl
    have hl1 := upd_same (H := H) (a := l) (o := .lst ((gs.drop (gs.length - m)).map V.int))
    generalize (upd H l (.lst ((gs.drop (gs.length - m)).map V.int))) = H1 at sa1 hl1 ⊢
    have kx1 := Kx.of (a := a) sa1
    have R1 := R.mono sa1
    refine ⟨_, _, rfl, rfl, ⟨by decide, by decide, by decide⟩, _, _, rfl, rfl, ⟨by decide, by decide, by decide⟩, (by show 2 ≤ sizeLine; decide), fun q hq => ?_⟩
    have sa2 := same_new (o := .tup [.int ((10 : Int) ^ (5 : Int).toNat), .int ((10 : Int) ^ (20 : Int).toNat)]) hq
    have hqa : q ≠ a := (R1.new hq).symm
    refine ⟨q, rfl, ⟨_, SqT.of upd_same⟩, for_tup (a := q) (xs := [.int ((10 : Int) ^ (5 : Int).toNat), .int ((10 : Int) ^ (20 : Int).toNat)]) (fun i σ H' => (∃ v10 v11 v12 v13 v14 v15, σ = [some (.ref a), some (.ref p), some (.ref u), some (.int (c : Int)), some (.ref g1), some (.ref t1), some (.ref s1), some (.ref w1), some (.int n), some (.ref l), v10, v11, v12, v13, v14, v15]) ∧ Kx a H H' ∧ Src H' a (b + 2 * i) ∧ H' l = some (.lst ((gs.drop (gs.length - m)).map V.int)) ∧ H' q = some (.tup [.int ((10 : Int) ^ (5 : Int).toNat), .int ((10 : Int) ^ (20 : Int).toNat)])) ⟨⟨_, _, _, _, _, _, rfl⟩, kx1.trans (Kx.of sa2), R1.mono sa2, sa2 _ _ hl1, upd_same⟩ (fun i σ H' _ p => SqT.of p.2.2.2.2) ?_ ?_⟩
    · rintro i x σ H2 hx ⟨⟨v10, v11, v12, v13, v14, v15, rfl⟩, kx2, R2, hl2, hq2⟩
      obtain ⟨M, rfl, hM1, hM2⟩ : ∃ M : Int, x = .int M ∧ 1 ≤ M ∧ M ≤ 10 ^ 20 := by
        have := List.mem_of_getElem? hx
        simp only [List.mem_cons, List.not_mem_nil, or_false] at this
        rcases this with rfl | rfl <;> exact ⟨_, rfl, by decide, by decide⟩
      have hi2 : i < 2 := (List.getElem?_eq_some_iff.mp hx).1
      clear hx
      refine ⟨_, rfl, _, rfl, a, M, b + 2 * i, rfl, R2, by omega, hM1, by omega, fun z H3 z0 z1 kx3 R3 => ?_⟩
      obtain ⟨z, rfl⟩ : ∃ zn : Nat, z = (zn : Int) := ⟨z.toNat, by omega⟩
      have kx3 := kx2.trans kx3
      have hl3 : H3 l = _ := (‹Kx a H2 H3› l _ hla hl2)
      have hq3 : H3 q = _ := (‹Kx a H2 H3› q _ hqa hq2)
      have B3 := B.kx kx3
      have S3 := S.kx kx3
      have elt : ((gs.drop (gs.length - m)).map V.int).length = m := by rw [List.length_map, List.length_drop]; omega
      have elg : (gs.map V.int).length = gs.length := List.length_map _
      refine ⟨_, rfl, .inl ⟨_, rfl, _, rfl, l, _, rfl, .inl (SqL.of hl3), _, _, rfl, rfl, (by rw [elt]; omega), _, rfl, g1, _, rfl, .inl (SqL.of B3.hg), _, rfl, _, _, rfl, rfl, _, _, rfl, ?_⟩⟩
      rw [elt, elg]
      show tSeq _ _ _ [some (.ref a), some (.ref p), some (.ref u), some (.int (c : Int)), some (.ref g1), some (.ref t1), some (.ref s1), some (.ref w1), some (.int n), some (.ref l), some (.int M), some (.int (z : Int)), some (.int ((z % m : Nat) : Int)), some (.int ((gs.length : Int) + (z : Int))), v14, v15] H3
      have hlt : z % m < m := Nat.mod_lt _ hm1
      have hBc : bs[c]? = some (bs.getD c 0) := getD_get hc
      generalize bs.getD c 0 = b0 at hBc ⊢
      refine ⟨_, rfl, _, rfl, s1, _, _, _, rfl, rfl, SqL.of B3.hs, at_map hBc, _, rfl, _, rfl, _, rfl, _, rfl, l, _, rfl, SqL.of hl3, fun l2 hn2 => ?_⟩
      rw [cut_to, ← List.map_take]
      have t1' := same_new (o := .lst (((gs.drop (gs.length - m)).take (z % m)).map V.int)) hn2
      have hl2' := upd_same (H := H3) (a := l2) (o := .lst (((gs.drop (gs.length - m)).take (z % m)).map V.int))
      generalize (upd H3 l2 (.lst (((gs.drop (gs.length - m)).take (z % m)).map V.int))) = H4 at t1' hl2' ⊢
      refine ⟨g1, l2, _, _, rfl, rfl, t1' _ _ B3.hg, hl2', Nat.le_of_lt (small1000 ?_), fun l3 hn3 => ?_⟩
      · rw [List.length_map, List.length_map, List.length_take, List.length_drop]
        omega
      rw [← List.map_append]
      have t2' := same_new (o := .lst ((gs ++ (gs.drop (gs.length - m)).take (z % m)).map V.int)) hn3
      have T5 := t1'.trans t2'
      refine ⟨l3, _, rfl, SqL.of upd_same, _, _, rfl, rfl, ?_⟩
      generalize (upd H4 l3 (.lst ((gs ++ (gs.drop (gs.length - m)).take (z % m)).map V.int))) = H5 at T5 ⊢
      clear t1' t2' hl2' hn2 hn3
      have hl5 := T5 _ _ hl3
      have hper := per_bd okG hm1 hm2
      refine ⟨_, rfl, _, rfl, _, rfl, l, _, rfl, .inl (SqL.of hl5), _, _, rfl, rfl, ?_, _, rfl, l, _, rfl, SqL.of hl5, ?_⟩
      · rw [elt]
        exact ⟨by omega, by omega⟩
      rw [elt, per_sum]
      refine ⟨_, _, rfl, rfl, .inr ⟨by omega, by omega⟩, _, _, rfl, rfl, ?_⟩
      have efo := far_off hm1 hm2 z
      have esl : b0 + (gs ++ (gs.drop (gs.length - m)).take (z % m)).sum + (z : Int) / (m : Int) * per gs m = b0 + off gs (.rep m) (gs.length + z) := by omega
      show tSeq _ _ _ [some (.ref a), some (.ref p), some (.ref u), some (.int (c : Int)), some (.ref g1), some (.ref t1), some (.ref s1), some (.ref w1), some (.int n), some (.ref l), some (.int M), some (.int (z : Int)), some (.int ((z % m : Nat) : Int)), some (.int ((gs.length : Int) + (z : Int))), some (.int (b0 + (gs ++ (gs.drop (gs.length - m)).take (z % m)).sum + (z : Int) / (m : Int) * per gs m)), v15] H5
      rw [esl]
      obtain ⟨dx, hob⟩ := S.ob
      have nSl : (sflds r sl wl n).lookup ("slot_of" : Str) = none := sflds_no _ _ _ _ (by decide +kernel) (by decide +kernel) (by decide +kernel) (by decide +kernel)
      have nAi : (sflds r sl wl n).lookup ("attempt_in" : Str) = none := sflds_no _ _ _ _ (by decide +kernel) (by decide +kernel) (by decide +kernel) (by decide +kernel)
      have S5 := S3.kx (Kx.of T5)
      have R5 := R3.mono T5
      have pa : p ≠ a := S.na.1
      have hob5 := T5 _ _ (kx3 _ _ pa hob)
      have hatt : ∀ k, AttOk gs (.rep m) k := fun _ => True.intro
      have hgd : bs.getD c 0 = b0 := by rw [List.getD_eq_getElem?_getD, hBc]; rfl
      have hHD : ∀ {k : Nat} {d : Int}, k ≤ gs.length + z + 1 → d ≤ off gs (.rep m) k → HD gs (.rep m) d := fun {k d} h1 h2 => HD_of okG okT (n := k) (by omega) (fun b e => nomatch e) h2
      have egap := off_succ (gs := gs) (tl := .rep m) okT (n := gs.length + z) (fun e => nomatch e)
      -- slot_of
      refine ⟨_, rfl, p, dx, _, rfl, hob5, nSl, _, rfl, _, rfl, a, p, r, g, t, o, sl, wl, gs, .rep m, bs, rs, ws, n, _, _, rfl, S5, .inr ⟨c, rfl, hc, .inr ⟨gs.length + z, ?_, fun _ H6 S6 => ?_, fun b e hx => (nomatch e), fun e => (nomatch e)⟩⟩⟩
      · rw [Int.natCast_add]
      rw [hgd]
      refine ⟨_, rfl, rfl, _, rfl, iteFb ?_ ?_⟩
      · show (!decide (V.int (b0 + off gs (.rep m) (gs.length + z)) = V.int (b0 + off gs (.rep m) (gs.length + z)))) = false
        rw [decide_eq_true rfl]
        rfl
      have S6' := S5.kx (Kx.of S6)
      refine ⟨_, rfl, p, dx, _, rfl, S6 _ _ hob5, nAi, _, rfl, _, rfl, a, p, r, g, t, o, sl, wl, gs, .rep m, bs, rs, ws, n, _, _, rfl, S6', .inr ⟨c, rfl, hc, .inr ⟨_, rfl, ?_, fun v H7 S7 aa => ?_⟩⟩⟩
      · rw [hgd]
        exact hHD (k := gs.length + z) (by omega) (by omega)
      rw [hgd] at aa
      obtain rfl := AA_hit okG okT (hatt (gs.length + z)) (by omega) aa
      refine ⟨_, rfl, rfl, _, rfl, iteFb ?_ ?_⟩
      · show (!decide (V.int ((gs.length + z : Nat) : Int) = V.int ((gs.length : Int) + (z : Int)))) = false
        rw [decide_eq_true (by rw [Int.natCast_add])]
        rfl
      have T7 := S6.trans S7
      have S7' := S5.kx (Kx.of T7)
      have hl7 := T7 _ _ hl5
      -- the next attempt
      refine ⟨_, rfl, p, dx, _, rfl, T7 _ _ hob5, nAi, _, rfl, _, rfl, _, rfl, _, rfl, l, _, _, _, rfl, rfl, SqL.of hl7, at_map (far_gap hm1 hm2 z), _, _, rfl, rfl, a, p, r, g, t, o, sl, wl, gs, .rep m, bs, rs, ws, n, _, _, rfl, S7', .inr ⟨c, rfl, hc, .inr ⟨_, rfl, ?_, fun v H8 S8 aa => ?_⟩⟩⟩
      · rw [hgd]
        exact hHD (k := gs.length + z + 1) (by omega) (by omega)
      rw [hgd] at aa
      obtain rfl := AA_hit okG okT (hatt (gs.length + z + 1)) (by omega) aa
      refine ⟨_, rfl, _, _, rfl, rfl, rfl, _, rfl, iteFb ?_ ?_⟩
      · show (!decide (V.int ((gs.length + z + 1 : Nat) : Int) = V.int ((gs.length : Int) + (z : Int) + 1))) = false
        rw [decide_eq_true (by rw [Int.natCast_add, Int.natCast_add]; rfl)]
        rfl
      have T8 := T7.trans S8
      have hl8 := T8 _ _ hl5
      have hgp : 1 ≤ gapf gs (.rep m) (gs.length + z) ∧ gapf gs (.rep m) (gs.length + z) ≤ 1000000000000 := okG.2 _ (List.mem_of_mem_drop (List.mem_of_getElem? (far_gap hm1 hm2 z)))
      refine ⟨_, rfl, _, rfl, _, rfl, l, _, _, _, rfl, rfl, SqL.of hl8, at_map (far_gap hm1 hm2 z), a, _, b + 2 * i + 1, rfl, R5.mono T8, by omega, hgp.1, by omega, fun y H9 y0 y1 kx9 R9 => ?_⟩
      have kxA : Kx a H5 H9 := (Kx.of T8).trans kx9
      have S9' := S5.kx kxA
      have hl9 := kx9 _ _ hla hl8
      have hq9 := kx9 _ _ hqa (T8 _ _ (T5 _ _ hq3))
      have kxB : Kx a H H9 := (kx3.trans (Kx.of T5)).trans kxA
      refine ⟨_, rfl, _, _, rfl, rfl, _, rfl, ?_⟩
      by_cases hy : 0 < y
      · refine iteTb (decide_eq_true hy) ?_
        refine ⟨_, rfl, p, dx, _, rfl, kxA _ _ pa hob5, nAi, _, rfl, _, rfl, _, rfl, _, _, rfl, rfl, a, p, r, g, t, o, sl, wl, gs, .rep m, bs, rs, ws, n, _, _, rfl, S9', .inr ⟨c, rfl, hc, .inr ⟨_, rfl, ?_, fun v HA SA aa => ?_⟩⟩⟩
        · rw [hgd]
          exact hHD (k := gs.length + z + 1) (by omega) (by omega)
        rw [hgd] at aa
        obtain rfl := AA_miss aa fun k _ e => by
          rcases Nat.lt_or_ge (gs.length + z) k with h | h
          · have := off_mono okG okT (gs.length + z + 1) (k - (gs.length + z + 1)) (fun e => nomatch e)
            rw [show gs.length + z + 1 + (k - (gs.length + z + 1)) = k by omega] at this
            omega
          · have := off_mono okG okT k (gs.length + z - k) (fun e => nomatch e)
            rw [show k + (gs.length + z - k) = gs.length + z by omega] at this
            omega
        refine ⟨rfl, _, rfl, iteFb ?_ ⟨⟨_, _, _, _, _, _, rfl⟩, kxB.trans (Kx.of SA), (R9.mono SA).le (by omega), SA _ _ hl9, SA _ _ hq9⟩⟩
        rw [decide_eq_true rfl]
        rfl
      · exact iteFb (decide_eq_false hy) (iteF ⟨⟨_, _, _, _, _, _, rfl⟩, kxB, R9.le (by omega), hl9, hq9⟩)
    · rintro σ H2 ⟨⟨v10, v11, v12, v13, v14, v15, rfl⟩, kx2, R2, _⟩
      exact k H2 kx2 R2
end
end RS
/-! ### isinstance of the caught error against a tuple of classes; count in a list of truth values -/
namespace L2
open PySem PySem.Spec PyProof.Rows
section
variable {X : Cx} {a : Addr} {oe : Obj} {cls : Value} {d : Option Addr} {pn : List (Addr × Obj)}
def rIsErT (K : PySem.W.Frag) (a : Addr) (cls : Value) (d : Option Addr) : List V → Hp → VK → Prop := fun xs H Q =>
  ∃ (D dd tp : Addr) (fs : List (Str × V)) (cs : List V) (ws : List Value) (b : Bool), Held H cls d D dd fs ∧ ErCls K D ∧ xs = [.ref a, .ref tp] ∧ H tp = some (.tup cs) ∧ (∀ us, Vals cs us → us = ws) ∧ PySem.W.kitAny K (.ref D) ws = some b ∧ Q (.bl b) H
theorem call_isErT (hz : Zc cls d oe) (hf : ∃ vs, oe.data = .fields vs) : CallR (X.suite a ((a, oe) :: pn)) (.builtin "isinstance") (rIsErT X.K a cls d) := by
  rintro pins s σ H xs us Q I r ⟨D, dd, tp, fs, cs, ws, b, hh, C, rfl, hT, hws, e, q⟩
  obtain ⟨od, J, _⟩ := held_at hz hf I hh
  match us, r with
  | [u1, u2], .cons r1 (.cons r2 .nil) =>
    obtain rfl : u1 = Value.ref a := r1
    obtain rfl : u2 = Value.ref tp := r2
    obtain ⟨_, its, rv, o, g1, g2, n, g3⟩ := (show ObjOk X.prog X.w H s.heap tp (.tup cs) from I.hok tp _ hT)
    obtain rfl := hws _ rv
    obtain ⟨oc, od', dt, sl⟩ := o
    dsimp only at g2 g3
    subst g2 g3
    refine PySem.W.kia_tup (PySem.W.kitx_exc C.cl C.ga C.gg C.sb C.ca C.cn C.ct C.cm) I.kIn J g1 e (by intro z; cases z) fun tk => ?_
    exact ⟨.bl b, H, I.kept (t' := tk) fun _ _ z => z, rfl, q⟩
end
section
variable {X : Cx}
theorem bools_dp {K : PySem.W.Frag} {H : Hp} : ∀ bs : List Bool, DpAll K H (bs.map V.bl) (bs.map PyData.bool)
  | [] => .nil
  | b :: r => .cons (.bl b) (bools_dp r)
theorem bools_plain : ∀ bs : List Bool, PyData.plainAll (bs.map PyData.bool) = true
  | [] => rfl
  | b :: r => bools_plain r
theorem bools_count : ∀ bs : List Bool, (bs.map PyData.bool).countP (fun y => PyData.eqv y (.bool true)) = bs.count true
  | [] => rfl
  | b :: r => by
    rw [List.map_cons, List.countP_cons, List.count_cons, bools_count r]
    cases b <;> simp [PyData.eqv]
def rCntB (K : PySem.W.Frag) : V → List V → Hp → VK → Prop := fun x xs H Q => ∃ (p : Addr) (bs : List Bool), x = .ref p ∧ xs = [.bl true] ∧ SqL K H p (bs.map V.bl) ∧ Q (.int (bs.count true : Nat)) H
theorem mt_countB (hu : X.A.units + 64 < cLine) : MtR X "list.count" (rCntB X.K) := by
  intro pins s σ H x xs v us Q I rx rxs h
  obtain ⟨p, bs, rfl, rfl, hs, q⟩ := h
  cases rx
  obtain ⟨u, rfl, ru⟩ := rxs.one
  obtain ⟨its, rv, hl, _⟩ := I.list hs
  obtain ⟨as, ra⟩ := Dp.readsAll I _ _ _ (bools_dp bs) rv
  obtain ⟨as2, rb⟩ := Dp.reads I (.bool true) _ _ (.bl true) ru
  refine SeqAt.count_list_data hl.isList (xs := bs.map PyData.bool) (d := .bool true) ra rb (bools_plain bs) rfl ?_ ?_
  · show X.A.units + 1 + min _ 0 < cLine
    rw [Nat.min_zero]
    omega
  · rw [bools_count]
    exact ⟨.int (bs.count true : Nat), H, I.tok _, ⟨s.toks, rfl⟩, q⟩
end
end L2
/-! ### defs that are called where no container is being shown -/
namespace L2
open PySem PySem.Spec PyProof.Rows
section
variable {P : Program} {w : World} {K : PySem.W.Frag} {mg : Str → Option Value} {base : Heap}
/-- a def's promise, kept wherever no list, tuple or dict is being shown -/
structure FnG (P : Program) (w : World) (K : PySem.W.Frag) (mg : Str → Option Value) (base : Heap) (k : Nat) (f : Addr) (fd : FuncData) (ps : List Str) (sp : Sp) : Prop where
  many : ∀ {vs H Q E}, sp vs H Q E → vs.length = ps.length
  go : ∀ {A : Around} {outer : List Env} {s : Shared} {H : Hp} {args : Args} {us : List Value} {vs : List V} {Q : VK} {E : XK}, A.guards = some [] → Room k A → Env0 P w K mg base A outer s H → BindsTo s fd args (ps.zip us) → Vals vs us → sp vs H Q E →
    codeAny (model P w) A (.call (.ref f) args) (CR CX0 outer P w H s Q E) s
/-- by its body, its code object known -/
theorem calm_at {x qual : Str} {st : Stmt} {f : Addr} {N ps : List Str} {k : Nat} {sp : Sp} {oc kV doc pm cdv ct : Value} {od an : Option Addr} {osl : Array (Option Value)} (lk : K.lookup f = some ⟨oc, od, .func (PySem.W.fnOf x qual (defArgs st) (defBody st) (defScope st) .none kV doc pm an cdv ct), osl⟩) (hcd : PySem.W.codeIn K cdv qual = true) (S : FnScope N ps (defScope st)) (many : ∀ {vs H Q E}, sp vs H Q E → vs.length = ps.length)
    (walk : ∀ (A : Around) (outer : List Env) (s : Shared) (H : Hp) (vs : List V) (Q : VK) (E : XK), (A.deeper (envOfC qual (defScope st) s.heap.objs.size f cdv)).guards = some [] → Room k (A.deeper (envOfC qual (defScope st) s.heap.objs.size f cdv)) → sp vs H Q E →
      ∃ t, PSs (cxOf CX0 P w K mg base N qual (defScope st) f cdv A outer s H E).nox (defBody st) t ∧ t { nx := fun _ H' => Q .non H', rt := Q } (start N vs) H) : FnG P w K mg base (k + 1) f (PySem.W.fnOf x qual (defArgs st) (defBody st) (defScope st) .none kV doc pm an cdv ct) ps sp := by
  refine ⟨many, fun {A outer s H args us vs Q E} calm hr e0 hb rv hsp => ?_⟩
  have old : ∀ b o, base.get? b = some o → s.heap.get? b = some o := fun b o e => (e0.bs b o e).1
  have kin := e0.mod.kin.keeps old
  refine codeAny_call_function hr.depth (kin _ _ lk) rfl S.co S.gen rfl (PySem.W.codeRec_of kin hcd) (hb _ _ _ _ (wpAny_newFunctionEnv_cells S.kind (fun q hq => ?_) fun env he s1 made => ?_))
  · exact (S.par q.1 (List.of_mem_zip (a := q.1) (b := q.2) hq).1).imp id fun z => ⟨z, PySem.W.cellsFrom_some _ _ _ (.inl z)⟩
  · subst he
    obtain ⟨t, ht, hq⟩ := walk A outer s H vs Q E calm (hr.deeper _) hsp
    have I := inv_start (CX := CX0) (E := E) (cd := cdv) (f := f) (qual := qual) S hr.hd e0 (many hsp) rv made
    refine ⟨(e0.mod.nolimit.keeps old).keeps made.toInCall.keep, codeAny_func (wpAny_mono (ht.nox.run [] s1 (start N vs) H _ I hq) (fun fl s' told => ?_) fun _ _ z => z)⟩
    match fl, told with
    | .ret _, ⟨v, _, H', J, ru, q⟩ => exact ⟨v, H', J.os, J.bare, J.base, J.hok, ru, q⟩
    | .next, ⟨_, H', J, q⟩ => exact ⟨.non, H', J.os, J.bare, J.base, J.hok, rfl, q⟩
    | .brk, ⟨_, _, _, q⟩ => exact q.elim
    | .cont, ⟨_, _, _, q⟩ => exact q.elim
theorem Fun.calm {x qual : Str} {st : Stmt} {f : Addr} {fd : FuncData} {N ps : List Str} {k : Nat} {sp : Sp} (F : Fun K x qual st f fd) (S : FnScope N ps (defScope st)) (many : ∀ {vs H Q E}, sp vs H Q E → vs.length = ps.length)
    (walk : ∀ (cdv : Value) (A : Around) (outer : List Env) (s : Shared) (H : Hp) (vs : List V) (Q : VK) (E : XK), (A.deeper (envOfC qual (defScope st) s.heap.objs.size f cdv)).guards = some [] → Room k (A.deeper (envOfC qual (defScope st) s.heap.objs.size f cdv)) → sp vs H Q E →
      ∃ t, PSs (cxOf CX0 P w K mg base N qual (defScope st) f cdv A outer s H E).nox (defBody st) t ∧ t { nx := fun _ H' => Q .non H', rt := Q } (start N vs) H) : FnG P w K mg base (k + 1) f fd ps sp := by
  obtain ⟨oc, od, kV, doc, pm, an, cdv, ct, osl, rfl, lk, hcd⟩ := F.ex
  exact calm_at lk hcd S many fun A outer s H vs Q E => walk cdv A outer s H vs Q E
end
section
variable {X : Cx} {k : Nat} {f : Addr} {fd : FuncData} {ps : List Str} {sp : Sp} {ds : List Value} {dvs : List V} {x : Str} {e : Expr} {es : List Expr} {t : TA} {p pos : Pos}
/-- f(e, ..) of such a def -/
theorem pe_calm (calm : X.A.guards = some []) (F : FnG X.prog X.w X.K X.mg X.base k f fd ps sp) (hr : Room k X.A) (hg : Gl X x) (hm : X.mg x = some (.ref f)) (hk : PySem.W.keepIn X.K (.ref f) = true) (hb : Binds X.K fd ps ds) (hd : Vals dvs ds)
    (ha : PA X (e :: es) t) (hdb : (x == ("__debug__" : Str)) = false := by decide) (he : starEach (e :: es) X.env = (false, eval e X.env) :: starEach es X.env := by rfl) (hpl : (backTo pos (starEach es X.env)).any (·.1) = false := by rfl) :
    PE X (.Call (.Name x p) (e :: es) [] pos) (tCall sp dvs E0 t) := by
  refine ⟨fun pins s σ H Q I h => wpAny_Call_Name_kw (ld_glob I hg hm (PySem.W.callWith_K (h₀ := X.base) I.ok.mod.kin hk (thn (ha.run pos pins s σ H _ I h) fun us s1 told => ?_) he hpl) hdb)⟩
  obtain ⟨vs, H1, I1, r, q⟩ := told
  refine ⟨I1.kIn, wpAny_call (codeAny_mono (F.go (args := ⟨us, []⟩) calm hr I1.env0 (hb s1 us I1.kIn ?_) (r.append hd) q) fun out s2 hq => ?_)⟩
  · rw [← (r.append hd).length]
    exact F.many q
  · match out, hq with
    | .error _, hq => exact hq.elim
    | .ok (.ret _), hq => exact I1.after hq
    | .ok .next, hq => exact hq.elim
    | .ok .brk, hq => exact hq.elim
    | .ok .cont, hq => exact hq.elim
end
/-! ### repr of what is read as data -/
section
variable {X : Cx}
def rRepD (K : PySem.W.Frag) : List V → Hp → VK → Prop := fun xs H Q => ∃ (a : Addr) (d : PyData), xs = [.ref a] ∧ Dp K H (.ref a) d ∧ d.showable = true ∧ d.hasDict = false ∧ d.depth ≤ 32 ∧ d.shown.length ≤ sizeLine ∧ Q (.str d.shown) H
theorem call_reprD (calm : X.A.guards = some []) (hu : X.A.units + 64 < cLine) : CallR X (.builtin "repr") (rRepD X.K) := by
  intro pins s σ H xs us Q I r h
  obtain ⟨a, d, rfl, hd, hs, hn, hdp, hl, q⟩ := h
  obtain ⟨u, rfl, ru⟩ := r.one
  obtain ⟨as, ra⟩ := Dp.reads I d _ _ hd ru
  obtain rfl : u = Value.ref a := ru
  refine repr_of_reads' ra hs (fun z => by rw [hn] at z; cases z) calm (by omega) (fun _ _ e => e) (fun h' t tk keep => ?_) hl
  exact ⟨.str _, H, I.kept keep, ⟨t, rfl⟩, q⟩
end
end L2
/-! ### repr of any of the laws' odd values -/
namespace L2
open PySem PySem.Spec PyProof.Rows
/-- v is read as d: plain data, or the empty dict -/
def DpR (K : PySem.W.Frag) (H : Hp) (v : V) (d : PyData) : Prop := Dp K H v d ∨ ∃ a, v = .ref a ∧ H a = some (.dK []) ∧ d = .dict []
theorem DpR.mono {K : PySem.W.Frag} {H H' : Hp} {v : V} {d : PyData} (e : ∀ {v d}, Dp K H v d → Dp K H' v d) (k : ∀ b o, H b = some o → H' b = some o) (h : DpR K H v d) : DpR K H' v d := by
  rcases h with h | ⟨a, h1, h2, h3⟩
  · exact .inl (e h)
  · exact .inr ⟨a, h1, k _ _ h2, h3⟩
/-- what repr is asked of -/
structure ReprOk (d : PyData) : Prop where
  sh : d.showable = true
  dc : d.hasDict = true → d = .dict []
  dp : d.depth ≤ 32
  sz : (∀ i, d ≠ .int i) → d.shown.length ≤ sizeLine
  nt : ∀ i, d = .int i → i.natAbs.log2 < 1920
section
variable {X : Cx}
def rTold (K : PySem.W.Frag) : List V → Hp → VK → Prop := fun xs H Q => ∃ (v : V) (d : PyData), xs = [v] ∧ DpR K H v d ∧ ReprOk d ∧ Q (.str d.shown) H
theorem call_told (calm : X.A.guards = some []) (hu : X.A.units + 64 < cLine) : CallR X (.builtin "repr") (rTold X.K) := by
  intro pins s σ H xs us Q I r h
  obtain ⟨v, d, rfl, hd, ok, q⟩ := h
  obtain ⟨u, rfl, ru⟩ := r.one
  have big : ∀ {a : Addr} {as : List Addr}, u = .ref a → Reads s.heap (.ref a) d as → (d.hasDict = true → sysModules ∉ as) → (∀ i, d ≠ .int i) → wpAny (model X.prog X.w) X.A (call (.builtin "repr") [u]) (EP X pins σ Q) X.xe s := by
    intro a as eu ra hm ni
    subst eu
    refine repr_of_reads' ra ok.sh hm calm (by have := ok.dp; omega) (fun _ _ e => e) (fun h' t tk keep => ?_) (ok.sz ni)
    exact ⟨.str _, H, I.kept keep, ⟨t, rfl⟩, q⟩
  rcases hd with hd | ⟨a, rfl, ha, rfl⟩
  · cases hd with
    | non =>
      obtain rfl : u = Value.none := ru
      exact PySem.P.repr_of_none ⟨.str _, H, I.tok _, ⟨_, rfl⟩, q⟩
    | bl b =>
      obtain rfl : u = Value.bool b := ru
      refine PySem.P.repr_of_bool ⟨.str _, H, I.tok _, ⟨s.toks, ?_⟩, q⟩
      cases b <;> rfl
    | int i =>
      obtain ⟨t, rfl⟩ := ru
      exact PySem.P.repr_of_int (ok.nt i rfl) ⟨.str _, H, I.tok _, ⟨_, rfl⟩, q⟩
    | str z =>
      obtain ⟨t, rfl⟩ := ru
      exact PySem.P.repr_of_str ⟨.str _, H, I.tok _, ⟨_, rfl⟩, q⟩ (ok.sz fun _ z => nomatch z)
    | @lst a xs ds h1 h2 =>
      obtain ⟨as, ra⟩ := Dp.reads I _ _ _ (.lst h1 h2) ru
      obtain rfl : u = Value.ref a := ru
      exact big rfl ra (fun z => by have := ok.dc z; cases this) (fun _ z => nomatch z)
    | @tup a xs ds h1 h2 =>
      obtain ⟨as, ra⟩ := Dp.reads I _ _ _ (.tup h1 h2) ru
      obtain rfl : u = Value.ref a := ru
      exact big rfl ra (fun z => by have := ok.dc z; cases this) (fun _ z => nomatch z)
  · obtain rfl : u = Value.ref a := ru
    obtain ⟨_, nS, vs, kv, o, es, ep, e1, e2, e3, e4, e5, _⟩ := (show ObjOk X.prog X.w H s.heap a (.dK []) from I.hok a _ ha)
    cases kv
    have ees : es.toList = [] := by
      cases h : es.toList with
      | nil => rfl
      | cons z r => rw [h] at e5; cases e5
    have ra : Reads s.heap (.ref a) (.dict []) (a :: [] ++ []) := .dict (kvs := []) e1 e2.1 e3 (by rw [ees]; exact .nil) (by rw [ees]; exact .nil)
    refine big rfl ra (fun _ hm => ?_) (fun _ z => nomatch z)
    simp at hm
    rw [hm] at nS
    simp at nS
end
theorem repr_int {i : Int} (h : i.natAbs.log2 < 1920) : ReprOk (.int i) := ⟨decide_eq_true h, (fun z => by cases z), (by show 0 ≤ 32; decide), (fun z => (z i rfl).elim), fun j e => by cases e; exact h⟩
theorem repr_bool (b : Bool) : ReprOk (.bool b) := ⟨rfl, (fun z => by cases z), (by show 0 ≤ 32; decide), (fun _ => by cases b <;> decide +kernel), fun j e => by cases e⟩
theorem repr_none : ReprOk .none := ⟨rfl, (fun z => by cases z), (by decide), (fun _ => by decide +kernel), fun j e => by cases e⟩
theorem repr_zero : ReprOk (.str "0") := ⟨by decide +kernel, (fun z => by cases z), (by decide), (fun _ => by decide +kernel), fun j e => by cases e⟩
theorem repr_list0 : ReprOk (.list [.int 0]) := ⟨by decide +kernel, (fun z => by cases z), (by decide), (fun _ => by decide +kernel), fun j e => by cases e⟩
theorem repr_dict0 : ReprOk (.dict []) := ⟨by decide +kernel, (fun _ => rfl), (by decide), (fun _ => by decide +kernel), fun j e => by cases e⟩
end L2
namespace LamX
open PySem PySem.Spec PyProof.Rows L2
section
variable {X : Cx}
/-- said_gives, where the suite's reading may speak of the call's own context -/
theorem said_gives2 {Ng : List Str} {x a e n q : Str} {sg : Scope} {g CS : Addr} {cdg : Value} {i : Nat} {p1 p2 p3 p4 p5 p6 : Pos} {b₀ : Stmt} {suite rest : List Stmt} {ts : Shared → Hp → Addr → Value → Option Addr → TS} {tr : TS}
    (hge : sg.names.lookup e = some .globalImplicit) (hme : X.mg e = some (.ref CS)) (hde : (e == ("__debug__" : Str)) = false) (hN : Ng.Nodup) (hi : Ng[i]? = some n) (hln : sg.names.lookup n = some .local) (h0 : ∀ f : Addr, (L2.start Ng [V.ref f])[0]? = some (some (V.ref f)))
    (hsu : ∀ (s : Shared) (H : Hp) (a : Addr) (oe : Obj) (cls : Value) (d : Option Addr) (pn : List (Addr × Obj)), Zc cls d oe → (∃ vs, oe.data = .fields vs) →
      PSs ((cxOf C8.CX0 X.prog X.w X.K X.mg X.base Ng x sg g cdg X.A X.stack s H C8.E0).nox.suite a ((a, oe) :: pn)) (b₀ :: suite) (ts s H a cls d))
    (hre : ∀ (s : Shared) (H : Hp), PSs (cxOf C8.CX0 X.prog X.w X.K X.mg X.base Ng x sg g cdg X.A X.stack s H C8.E0).nox rest tr)
    (hsw : ∀ (s : Shared) (H : Hp) (pn : List (Addr × Obj)) (xe : Value → Shared → Prop), swapsWith (.Call (.Name a p1) [] [] p2) none p3.line ((cxOf C8.CX0 X.prog X.w X.K X.mg X.base Ng x sg g cdg X.A X.stack s H C8.E0).nox.tr pn xe).env = pure false := by intros; rfl) :
    GivesTo X Ng x sg g cdg (.Try [.Expr (.Call (.Name a p1) [] [] p2) p3] [.ExceptHandler (some (.Name e p4)) (some n) (b₀ :: suite) p5] [] [] p6 :: rest) a q (fun tl H Q => ∀ s : Shared, TSaid X.K CS i Ng (ts s H) tr tl H Q) := by
  intro f c' s H Q tl act hc h
  have hgl : Gl (cxOf C8.CX0 X.prog X.w X.K X.mg X.base Ng x sg g cdg X.A X.stack s H C8.E0).nox e := hge
  refine ⟨_, pss_cons (ps_try_as (X := (cxOf C8.CX0 X.prog X.w X.K X.mg X.base Ng x sg g cdg X.A X.stack s H C8.E0).nox) (c := .ref CS) (i := i)
      (tb := fun W D σ H => ∃ Ech : XK, (∀ cls d (σ' : L2.St) H', Ech cls d H' → σ'.length = Ng.length → W cls d σ' H') ∧ σ[0]? = some (some (.ref f)) ∧ H c' = some (CodeO c' q) ∧ tl Ech H (fun _ H' => D.nx σ H'))
      rfl rfl hN hi hln ⟨hgl, hde, .inl hme⟩ LamX.takes0 (fun W pn xe tk _ => ?_) (fun a oe cls d pn hz hf => hsu s H a oe cls d pn hz hf)) (hre s H), ?_⟩
  · refine ⟨fun pins s' σ H' D I h' => ?_⟩
    obtain ⟨Ech, hW, h1, h2, h3⟩ := h'
    have hp := act _ pn xe Ech p1 p2 (takes_len tk) (fun cls d σ' H' z hl => hW cls d σ' H' z hl)
    have hq := pss_one (ps_expr (pos := p3) hp (hsw s H pn xe))
    exact hq.run pins s' σ H' D I ⟨h1, h2, h3⟩
  · exact ⟨fun cls d H' => ∃ b, PySem.W.exmOne X.K cls (.ref CS) = some b ∧ (b = true → ∀ (a : Addr) (σ : L2.St), H' a = none → σ.length = Ng.length →
      ts s H a cls d { nx := fun σ' H2 => tr { nx := fun _ H3 => Q .non H3, rt := Q } (σ'.set i none) H2, rt := Q } (σ.set i (some (.ref a))) H') ∧ (b = false → False), fun cls d σ' H' ⟨b, e1, e2, e3⟩ hl => ⟨b, e1, fun hb a ha => e2 hb a σ' ha hl, fun hb => e3 hb⟩, h0 f, hc, h s f⟩
end
end LamX
namespace RS
open PySem L2 LamX
/-- what _law_said names -/
structure SaidTxt (mg : Str → Option Value) (CR CSc CCl CSl CA CB CM CRu CLo CRe CTx : Addr) : Prop where
  gR : mg "RetryError" = some (.ref CR)
  g1 : mg "InvalidScene" = some (.ref CSc)
  g2 : mg "InvalidClient" = some (.ref CCl)
  g3 : mg "InvalidSlot" = some (.ref CSl)
  g4 : mg "InvalidAttempt" = some (.ref CA)
  g5 : mg "InvalidBound" = some (.ref CB)
  g6 : mg "LimitExceeded" = some (.ref CM)
  h1 : mg "InvalidRule" = some (.ref CRu)
  h2 : mg "InvalidLog" = some (.ref CLo)
  h3 : mg "InvalidReason" = some (.ref CRe)
  h4 : mg "InvalidText" = some (.ref CTx)
  ar : mg "ArithmeticError" = none
  isi : mg "isinstance" = none
  rep : mg "repr" = none
/-- what the classes say of an error of the class D -/
structure ErKind (K : PySem.W.Frag) (CR CSc CCl CSl CA CB CM CRu CLo CRe CTx D : Addr) (b2 b3 b4 b6 : Bool) : Prop where
  er : ErCls K D
  ex : PySem.W.exmOne K (.ref D) (.ref CR) = some true
  k1 : PySem.W.kitOne K (.ref D) (.ref CSc) = some false
  k2 : PySem.W.kitOne K (.ref D) (.ref CCl) = some b2
  k3 : PySem.W.kitOne K (.ref D) (.ref CSl) = some b3
  k4 : PySem.W.kitOne K (.ref D) (.ref CA) = some b4
  k5 : PySem.W.kitOne K (.ref D) (.ref CB) = some false
  k6 : PySem.W.kitOne K (.ref D) (.ref CM) = some b6
  ot : PySem.W.kitAny K (.ref D) [.ref CRu, .ref CLo, .ref CRe, .ref CTx] = some false
  ar : PySem.W.kitOne K (.ref D) (.type "ArithmeticError") = some true
/-- what is told by the pair of a word and a text -/
def ToldBy (K : PySem.W.Frag) (H : Hp) (Q : VK) (word : Str) (v : V) : Prop := ∃ dt : PyData, (∀ H', Same H H' → DpR K H' v dt) ∧ ReprOk dt ∧ ∀ T H', Same H H' → H' T = some (.tup [.str word, .str dt.shown]) → Q (.ref T) H'
def SaidEr (K : PySem.W.Frag) (CR CSc CCl CSl CA CB CM CRu CLo CRe CTx : Addr) (Q : VK) (cls : Value) (d : Option Addr) (H : Hp) : Prop := ∃ (D dd : Addr) (fl : Str) (v : V) (b2 b3 b4 b6 : Bool), cls = .ref D ∧ d = some dd ∧ H dd = some (.xd [(fl, v)]) ∧ PySem.W.findIn K (.ref D) fl = some none ∧ ErKind K CR CSc CCl CSl CA CB CM CRu CLo CRe CTx D b2 b3 b4 b6 ∧
  ((b2 = true ∧ b3 = false ∧ b4 = false ∧ b6 = false ∧ fl = "client" ∧ ToldBy K H Q "client" v) ∨ (b2 = false ∧ b3 = true ∧ b4 = false ∧ b6 = false ∧ fl = "slot" ∧ ToldBy K H Q "slot" v) ∨
    (b2 = false ∧ b3 = false ∧ b4 = true ∧ b6 = false ∧ fl = "attempt" ∧ ToldBy K H Q "attempt" v) ∨ (b2 = false ∧ b3 = false ∧ b4 = false ∧ b6 = true ∧ fl = "limit" ∧ ∀ T H', Same H H' → H' T = some (.tup [.str "limit", v]) → Q (.ref T) H'))
theorem four_refs {a b c d : Addr} : ∀ {us : List Value}, Vals [.ref a, .ref b, .ref c, .ref d] us → us = [.ref a, .ref b, .ref c, .ref d]
  | _, .cons r1 (.cons r2 (.cons r3 (.cons r4 .nil))) => by
    obtain rfl := (show _ = Value.ref a from r1)
    obtain rfl := (show _ = Value.ref b from r2)
    obtain rfl := (show _ = Value.ref c from r3)
    obtain rfl := (show _ = Value.ref d from r4)
    rfl
def saidN : List Str := ["_law_ask", "e", "_law_kinds", "_law_others"]
theorem scSaid : FnScope saidN ["_law_ask"] (defScope s_law_said) := ⟨rfl, rfl, rfl, by decide +kernel, rfl, by decide +kernel, by decide +kernel⟩
theorem pe_bmS {X : Cx} {K : PySem.W.Frag} {T : String} {e : Expr} {r : V → List V → Hp → VK → Prop} {to : L2.TE} {t : L2.TA} (hK : X.K = K) (h : PE X e (tBM X.K T r to t)) : PE X e (tBM K T r to t) := by
  subst hK
  exact h
/-- the context of its body -/
abbrev saidX (X : Cx) (g : Addr) (cdg : Value) (s : Shared) (H : Hp) : Cx := (cxOf C8.CX0 X.prog X.w X.K X.mg X.base saidN "_law_said" (defScope s_law_said) g cdg X.A X.stack s H C8.E0).nox
section
variable {X : Cx} {CR CSc CCl CSl CA CB CM CRu CLo CRe CTx : Addr} {g : Addr} {cdg : Value} {q : Str}
theorem said_walk (TX : SaidTxt X.mg CR CSc CCl CSl CA CB CM CRu CLo CRe CTx) (calm : X.A.guards = some []) (hu : X.A.units + 128 < cLine) : ∃ ts : Shared → Hp → Addr → Value → Option Addr → TS,
    GivesTo X saidN "_law_said" (defScope s_law_said) g cdg (defBody s_law_said) "_law_ask" q (fun tl H Q => ∀ s : Shared, TSaid X.K CR 1 saidN (ts s H) (tRet (tC .non)) tl H Q) ∧
    ∀ (s : Shared) (H : Hp) (Q : VK) (cls : Value) (d : Option Addr) (H' : Hp), SaidEr X.K CR CSc CCl CSl CA CB CM CRu CLo CRe CTx Q cls d H' →
      ∃ b, PySem.W.exmOne X.K cls (.ref CR) = some b ∧ (b = true → ∀ (a : Addr) (σ : L2.St), H' a = none → σ.length = saidN.length →
        ts s H a cls d { nx := fun σ' H2 => tRet (tC .non) { nx := fun _ H3 => Q .non H3, rt := Q } (σ'.set 1 none) H2, rt := Q } (σ.set 1 (some (.ref a))) H') ∧ (b = false → False) := by
  refine ⟨_, said_gives2 rfl TX.gR (by decide) scSaid.nd rfl rfl (fun f => rfl) (fun s H a oe cls d pn hz hf => (pss_cons (ps_set (i := 2) scSaid.nd rfl (Or.inl rfl) (pe_lst (pa_cons (pe_callB (call_isEr (X := saidX X g cdg s H) (a := a) (pn := pn) hz hf) (by rfl) TX.isi (by decide +kernel) (pa_cons (pv 1) (pa_cons (pe_glob (v := .ref CSc) rfl TX.g1 rfl) pa_nil))) (pa_cons (pe_callB (call_isEr (X := saidX X g cdg s H) (a := a) (pn := pn) hz hf) (by rfl) TX.isi (by decide +kernel) (pa_cons (pv 1) (pa_cons (pe_glob (v := .ref CCl) rfl TX.g2 rfl) pa_nil))) (pa_cons (pe_callB (call_isEr (X := saidX X g cdg s H) (a := a) (pn := pn) hz hf) (by rfl) TX.isi (by decide +kernel) (pa_cons (pv 1) (pa_cons (pe_glob (v := .ref CSl) rfl TX.g3 rfl) pa_nil))) pa_nil))))) (pss_cons (ps_set (i := 2) scSaid.nd rfl (Or.inl rfl) (pe_op op_cat (pv 2) (pe_lst (pa_cons (pe_callB (call_isEr (X := saidX X g cdg s H) (a := a) (pn := pn) hz hf) (by rfl) TX.isi (by decide +kernel) (pa_cons (pv 1) (pa_cons (pe_glob (v := .ref CA) rfl TX.g4 rfl) pa_nil))) (pa_cons (pe_callB (call_isEr (X := saidX X g cdg s H) (a := a) (pn := pn) hz hf) (by rfl) TX.isi (by decide +kernel) (pa_cons (pv 1) (pa_cons (pe_glob (v := .ref CB) rfl TX.g5 rfl) pa_nil))) (pa_cons (pe_callB (call_isEr (X := saidX X g cdg s H) (a := a) (pn := pn) hz hf) (by rfl) TX.isi (by decide +kernel) (pa_cons (pv 1) (pa_cons (pe_glob (v := .ref CM) rfl TX.g6 rfl) pa_nil))) pa_nil)))))) (pss_cons (ps_set (i := 3) scSaid.nd rfl (Or.inl rfl) (pe_callB (call_isErT (X := saidX X g cdg s H) (a := a) (pn := pn) hz hf) (by rfl) TX.isi (by decide +kernel) (pa_cons (pv 1) (pa_cons (pe_tup (pa_cons (pe_glob (v := .ref CRu) rfl TX.h1 rfl) (pa_cons (pe_glob (v := .ref CLo) rfl TX.h2 rfl) (pa_cons (pe_glob (v := .ref CRe) rfl TX.h3 rfl) (pa_cons (pe_glob (v := .ref CTx) rfl TX.h4 rfl) pa_nil))))) pa_nil)))) (pss_cons (ps_if (PW.pt (pw_or (pt_cmpR op_ne (pe_bmS (X := (saidX X g cdg s H).suite a ((a, oe) :: pn)) (K := X.K) (T := "list") rfl (pe_bm (r := rCntB X.K) PySem.F.plainAttrs_list PySem.F.slot_list_count PySem.F.type_list_count (mt_countB (by have h := hu; show X.A.units + 3 + 64 < cLine; omega)) (pv 2) (pa_cons pe_bl pa_nil))) pe_int (nomark _)) (pw_or (pt_val (pv 3)) (pw_or1 (pt_not (pt_val (pe_callB (call_isEr (X := saidX X g cdg s H) (a := a) (pn := pn) hz hf) (by rfl) TX.isi (by decide +kernel) (pa_cons (pv 1) (pa_cons (pe_bltn (v := .ty "ArithmeticError") (by rfl) TX.ar (by decide +kernel) rfl) pa_nil))))))))) (pss_one (ps_ret (pe_tup (pa_cons pe_str (pa_cons pe_non pa_nil))))) pss_nil) (pss_cons (ps_if (pt_val (pe_ix (r := rIxL X.K) ix_list (pv 2) pe_int (fun _ _ => rfl))) (pss_one (ps_ret (pe_tup (pa_cons pe_str (pa_cons (pe_byX (X := saidX X g cdg s H) (a := a) (pn := pn) hz hf (pv 1)) (pa_cons (pe_byX (X := saidX X g cdg s H) (a := a) (pn := pn) hz hf (pv 1)) pa_nil)))))) pss_nil) (pss_cons (ps_if (pt_val (pe_ix (r := rIxL X.K) ix_list (pv 2) pe_int (fun _ _ => rfl))) (pss_one (ps_ret (pe_tup (pa_cons pe_str (pa_cons (pe_callB (r := rTold X.K) (call_told (X := (saidX X g cdg s H).suite a ((a, oe) :: pn)) (by exact calm) (by have h := hu; show X.A.units + 3 + 64 < cLine; omega)) (by rfl) TX.rep (by decide +kernel) (pa_cons (pe_byX (X := saidX X g cdg s H) (a := a) (pn := pn) hz hf (pv 1)) pa_nil)) pa_nil))))) pss_nil) (pss_cons (ps_if (pt_val (pe_ix (r := rIxL X.K) ix_list (pv 2) pe_int (fun _ _ => rfl))) (pss_one (ps_ret (pe_tup (pa_cons pe_str (pa_cons (pe_callB (r := rTold X.K) (call_told (X := (saidX X g cdg s H).suite a ((a, oe) :: pn)) (by exact calm) (by have h := hu; show X.A.units + 3 + 64 < cLine; omega)) (by rfl) TX.rep (by decide +kernel) (pa_cons (pe_byX (X := saidX X g cdg s H) (a := a) (pn := pn) hz hf (pv 1)) pa_nil)) pa_nil))))) pss_nil) (pss_cons (ps_if (pt_val (pe_ix (r := rIxL X.K) ix_list (pv 2) pe_int (fun _ _ => rfl))) (pss_one (ps_ret (pe_tup (pa_cons pe_str (pa_cons (pe_callB (r := rTold X.K) (call_told (X := (saidX X g cdg s H).suite a ((a, oe) :: pn)) (by exact calm) (by have h := hu; show X.A.units + 3 + 64 < cLine; omega)) (by rfl) TX.rep (by decide +kernel) (pa_cons (pe_byX (X := saidX X g cdg s H) (a := a) (pn := pn) hz hf (pv 1)) pa_nil)) pa_nil))))) pss_nil) (pss_one (ps_ret (pe_ifExp (pt_val (pe_ix (r := rIxL X.K) ix_list (pv 2) pe_int (fun _ _ => rfl))) (pe_tup (pa_cons pe_str (pa_cons (pe_byX (X := saidX X g cdg s H) (a := a) (pn := pn) hz hf (pv 1)) pa_nil))) (pe_tup (pa_cons pe_str (pa_cons (pe_byX (X := saidX X g cdg s H) (a := a) (pn := pn) hz hf (pv 1)) pa_nil))))))))))))))) (fun s H => pss_one (ps_ret pe_non)), fun s H Q cls d H' er => ?_⟩
  obtain ⟨D, dd, fl, v, b2, b3, b4, b6, rfl, rfl, hx, no, k, way⟩ := er
  refine ⟨true, k.ex, fun _ a σ ha hl => ?_, fun z => nomatch z⟩
  match σ, hl with
  | [v0, v1, v2, v3], _ =>
  have held : ∀ {H2}, Same H' H2 → Held H2 (.ref D) (some dd) D dd [(fl, v)] := fun S => ⟨rfl, rfl, S _ _ hx⟩
  refine ⟨_, rfl, D, dd, _, _, _, _, held (Same.refl H'), k.er, rfl, (fun u z => z), k.k1, _, rfl, D, dd, _, _, _, _, held (Same.refl H'), k.er, rfl, (fun u z => z), k.k2, _, rfl, D, dd, _, _, _, _, held (Same.refl H'), k.er, rfl, (fun u z => z), k.k3, (by show 3 ≤ sizeLine; decide), fun l1 hl1 => ?_⟩
  have S1 := same_new (o := .lst [V.bl false, V.bl b2, V.bl b3]) hl1
  have e1 := upd_same (H := H') (a := l1) (o := .lst [V.bl false, V.bl b2, V.bl b3])
  generalize (upd H' l1 (.lst [V.bl false, V.bl b2, V.bl b3])) = H1 at S1 e1 ⊢
  refine ⟨_, rfl, _, rfl, D, dd, _, _, _, _, held S1, k.er, rfl, (fun u z => z), k.k4, _, rfl, D, dd, _, _, _, _, held S1, k.er, rfl, (fun u z => z), k.k5, _, rfl, D, dd, _, _, _, _, held S1, k.er, rfl, (fun u z => z), k.k6, (by show 3 ≤ sizeLine; decide), fun l2 hl2 => ?_⟩
  have S2 := same_new (o := .lst [V.bl b4, V.bl false, V.bl b6]) hl2
  refine ⟨l1, l2, _, _, rfl, rfl, S2 _ _ e1, upd_same, (by show 6 ≤ sizeLine; decide), fun l3 hl3 => ?_⟩
  have S3 := (S1.trans S2).trans (same_new (o := .lst ([V.bl false, V.bl b2, V.bl b3] ++ [V.bl b4, V.bl false, V.bl b6])) hl3)
  have e3 : (upd (upd H1 l2 (.lst [V.bl b4, V.bl false, V.bl b6])) l3 (.lst ([V.bl false, V.bl b2, V.bl b3] ++ [V.bl b4, V.bl false, V.bl b6]))) l3 = some (.lst ([false, b2, b3, b4, false, b6].map V.bl)) := upd_same
  generalize (upd (upd H1 l2 (.lst [V.bl b4, V.bl false, V.bl b6])) l3 (.lst ([V.bl false, V.bl b2, V.bl b3] ++ [V.bl b4, V.bl false, V.bl b6]))) = H3 at S3 e3 ⊢
  refine ⟨_, rfl, (by show 4 ≤ sizeLine; decide), fun T hT => ?_⟩
  have S4 := S3.trans (same_new (o := .tup [V.ref CRu, V.ref CLo, V.ref CRe, V.ref CTx]) hT)
  have e4 := same_new (o := .tup [V.ref CRu, V.ref CLo, V.ref CRe, V.ref CTx]) hT _ _ e3
  refine ⟨D, dd, T, _, _, _, _, held S4, k.er, rfl, upd_same, (fun us z => four_refs z), k.ot, ?_⟩
  generalize (upd H3 T (.tup [V.ref CRu, V.ref CLo, V.ref CRe, V.ref CTx])) = H4 at S4 e4 ⊢
  have hc : ([false, b2, b3, b4, false, b6] : List Bool).count true = 1 := by
    rcases way with ⟨h2, h3, h4, h6, _⟩ | ⟨h2, h3, h4, h6, _⟩ | ⟨h2, h3, h4, h6, _⟩ | ⟨h2, h3, h4, h6, _⟩ <;> rw [h2, h3, h4, h6] <;> rfl
  refine ⟨_, rfl, .inl ⟨rfl, _, SqL.of e4⟩, l3, _, rfl, rfl, SqL.of e4, rfl, _, rfl, iteFb ?_ ?_⟩
  · rw [hc]
    show (!decide (V.int 1 = V.int 1)) = false
    rw [decide_eq_true rfl]
    rfl
  refine ⟨_, rfl, false, rfl, iteF ?_⟩
  refine ⟨_, rfl, D, dd, _, _, _, _, held S4, k.er, rfl, (fun u z => z), k.ar, true, rfl, iteF ?_⟩
  refine ⟨_, rfl, l3, _, _, _, rfl, rfl, SqL.of e4, rfl, false, rfl, iteF ?_⟩
  refine ⟨_, rfl, l3, _, _, _, rfl, rfl, SqL.of e4, rfl, b2, rfl, ?_⟩
  have told : ∀ {word : Str} {H5 : Hp}, ToldBy X.K H' Q word v → Same H' H5 → ∃ dt : PyData, DpR X.K H5 v dt ∧ ReprOk dt ∧ ((2 : Nat) ≤ sizeLine ∧ ∀ T, H5 T = none → Q (.ref T) (upd H5 T (.tup [.str word, .str dt.shown]))) := fun {word H5} ⟨dt, h1, h2, h3⟩ S => ⟨dt, h1 _ S, h2, (by decide), fun T hT => h3 T _ (S.trans (same_new hT)) upd_same⟩
  rcases way with ⟨rfl, rfl, rfl, rfl, rfl, tb⟩ | ⟨rfl, rfl, rfl, rfl, rfl, tb⟩ | ⟨rfl, rfl, rfl, rfl, rfl, tb⟩ | ⟨rfl, rfl, rfl, rfl, rfl, kq⟩
  · obtain ⟨dt, h1, h2, h3⟩ := told tb S4
    exact iteT ⟨_, rfl, D, dd, _, v, rfl, held S4, k.er, no, rfl, v, dt, rfl, h1, h2, h3⟩
  · refine iteF ⟨_, rfl, l3, _, _, _, rfl, rfl, SqL.of e4, rfl, true, rfl, ?_⟩
    obtain ⟨dt, h1, h2, h3⟩ := told tb S4
    exact iteT ⟨_, rfl, D, dd, _, v, rfl, held S4, k.er, no, rfl, v, dt, rfl, h1, h2, h3⟩
  · refine iteF ⟨_, rfl, l3, _, _, _, rfl, rfl, SqL.of e4, rfl, false, rfl, iteF ⟨_, rfl, l3, _, _, _, rfl, rfl, SqL.of e4, rfl, true, rfl, ?_⟩⟩
    obtain ⟨dt, h1, h2, h3⟩ := told tb S4
    exact iteT ⟨_, rfl, D, dd, _, v, rfl, held S4, k.er, no, rfl, v, dt, rfl, h1, h2, h3⟩
  · refine iteF ⟨_, rfl, l3, _, _, _, rfl, rfl, SqL.of e4, rfl, false, rfl, iteF ⟨_, rfl, l3, _, _, _, rfl, rfl, SqL.of e4, rfl, false, rfl, iteF ?_⟩⟩
    refine ⟨_, rfl, l3, _, _, _, rfl, rfl, SqL.of e4, rfl, false, rfl, iteF ?_⟩
    exact ⟨_, rfl, D, dd, _, v, rfl, held S4, k.er, no, rfl, (by show 2 ≤ sizeLine; decide), fun T hT => kq T _ (S4.trans (same_new hT)) upd_same⟩
end
end RS
namespace RS
open PySem L2 LamX
/-- where a lambda is made: the code object of the def, its table -/
structure LamIn (X : Cx) (T : List (Addr × Str)) (c P : Addr) : Prop where
  tb : TabB X.base X.mg c P
  code : X.env.code = .ref c
  mem : (P, X.env.qual ++ "<lambda>") ∈ T
  uni : ∀ p ∈ T, p.1 = P → p.2 = X.env.qual ++ "<lambda>"
/-- _law_said(lambda: ..) -/
theorem pe_said {X : Cx} {T : List (Addr × Str)} {c P f : Addr} {fd : FuncData} {k : Nat} {CR CSc CCl CSl CA CB CM CRu CLo CRe CTx : Addr} {params : Arguments} {body : Expr} {scope : Scope} {t : XK → L2.TE} {p lpos pos : Pos}
    (F : Fun X.K "_law_said" "_law_said" s_law_said f fd) (bF : L2.Binds X.K fd ["_law_ask"] []) (mF : X.mg "_law_said" = some (.ref f)) (hg : Gl X "_law_said") (TX : SaidTxt X.mg CR CSc CCl CSl CA CB CM CRu CLo CRe CTx) (calm : X.A.guards = some []) (hu : X.A.units + 128 < cLine) (hr : Room (k + 2) X.A)
    (I : LamIn X T c P) (L : LamS X.env.scope scope) (hdef : defaultsOf params X.env = ([], [])) (hbind : ∀ (q : Str) (cl : List (Str × Addr)) (pm cv ctv : Value), bindArgs (PySem.W.kla_fn "<lambda>" q params body scope cl pm cv ctv) ⟨[], []⟩ = pure [])
    (hbody : ∀ (A : Around) (outer : List Env) (s : Shared) (H : Hp) (E : XK) (f c' : Addr), Room k (A.deeper (lamEnv X scope s.heap.objs.size f c')) → PE (lamCx X A outer s H E scope f c') body (t E)) :
    ∃ TT, PE X (.Call (.Name "_law_said" p) [.Lambda params body scope lpos] [] pos) (tLam T TT t) ∧
      ∀ (σ : L2.St) (H : Hp) (Q : VK), Tabs T H → (∀ (H1 : Hp) (E : XK), ExtN H H1 → Tabs T H1 → (∀ cls d H', SaidEr X.K CR CSc CCl CSl CA CB CM CRu CLo CRe CTx Q cls d H' → E cls d H') → t E σ H1 fun _ H' => Q .non H') → tLam T TT t σ H Q := by
  obtain ⟨oc, od, kV, doc, pm, an, cdv, ct, osl, rfl, lk, hcd⟩ := F.ex
  obtain ⟨ts, hG, told⟩ := said_walk (q := X.env.qual ++ "<lambda>") (g := f) (cdg := cdv) TX calm hu
  refine ⟨_, pe_lamcall hg mF F.kp lk hcd bF scSaid rfl (.inl rfl) hG I.tb I.code I.mem I.uni hr L hdef hbind hbody, fun σ H Q hT k => ⟨hT, fun H1 e1 t1 s f => k H1 _ e1 t1 fun cls d H' er => told s H1 Q cls d H' er⟩⟩
end RS
namespace RS
open PySem L2
/-! ### values that are no client, attempt or slot, and their texts -/
/-- an odd value at H and later: what it is read as -/
structure OddAt (K : PySem.W.Frag) (H : Hp) (x : V) (d : PyData) : Prop where
  odd : ∀ H', Same H H' → OddV K H' x
  rd : ∀ H', Same H H' → DpR K H' x d
  ok : ReprOk d
theorem OddAt.later {K : PySem.W.Frag} {H H' : Hp} {x : V} {d : PyData} (o : OddAt K H x d) (s : Same H H') : OddAt K H' x d := ⟨fun H2 s2 => o.odd H2 (s.trans s2), fun H2 s2 => o.rd H2 (s.trans s2), o.ok⟩
section
variable {K : PySem.W.Frag} {H : Hp}
theorem oddAt_bool (b : Bool) : OddAt K H (.bl b) (.bool b) := ⟨fun _ _ => ⟨"bool", .base (.bl b), .inl rfl⟩, fun _ _ => .inl (.bl b), repr_bool b⟩
theorem oddAt_none : OddAt K H .non .none := ⟨fun _ _ => ⟨"NoneType", .base .non, .inr (by decide +kernel)⟩, fun _ _ => .inl .non, repr_none⟩
theorem oddAt_str : OddAt K H (.str "0") (.str "0") := ⟨fun _ _ => ⟨"str", .base (.str _), .inr (by decide +kernel)⟩, fun _ _ => .inl (.str _), repr_zero⟩
theorem oddAt_list {a : Addr} (h : H a = some (.lst [.int 0])) : OddAt K H (.ref a) (.list [.int 0]) :=
  ⟨fun _ s => ⟨"list", .base (.lst (s _ _ h)), .inr (by decide +kernel)⟩, fun _ s => .inl (.lst (SqL.of (s _ _ h)) (.cons (.int 0) .nil)), repr_list0⟩
theorem oddAt_dict {a : Addr} (h : H a = some (.dK [])) : OddAt K H (.ref a) (.dict []) :=
  ⟨fun _ s => ⟨"dict", .base (.dK (s _ _ h)), .inr (by decide +kernel)⟩, fun _ s => .inr ⟨a, rfl, s _ _ h, rfl⟩, repr_dict0⟩
end
end RS
namespace RS
open PySem L2
/-- parts that are moved and multiplied are a rule's and a scene's -/
theorem far_gaps {gs : List Int} {tl : Tl} {bs : List Int} {ws : List (Int × Int)} {n c : Int} (ok : PartsOk gs tl bs ws n) (c1 : 1 ≤ c) (c2 : c ≤ 1000000000) : GapsOk (gs.map (c * ·)) := by
  have h := ok.sm
  refine ⟨by rw [List.length_map]; have := h.1; omega, fun g hg => ?_⟩
  obtain ⟨x, hx, rfl⟩ := List.mem_map.mp hg
  obtain ⟨x1, x2⟩ := h.2 x hx
  have h1 : c * 1 ≤ c * x := Int.mul_le_mul_of_nonneg_left x1 (by omega)
  have h2 : c * x ≤ c * 6 := Int.mul_le_mul_of_nonneg_left x2 (by omega)
  show 1 ≤ c * x ∧ c * x ≤ 1000000000000
  omega
theorem far_tail {gs : List Int} {tl : Tl} {bs : List Int} {ws : List (Int × Int)} {n c : Int} (ok : PartsOk gs tl bs ws n) : TlOk (gs.map (c * ·)).length tl := by
  rw [List.length_map]
  exact ok.tk
theorem far_scene {gs : List Int} {tl : Tl} {bs : List Int} {ws : List (Int × Int)} {n c sh : Int} (ok : PartsOk gs tl bs ws n) (c1 : 1 ≤ c) : SceneOk (bs.map (c * · + sh)) (farW c sh ws) (c * n) := by
  have hb := ok.b8
  have hw := ok.w3
  refine ⟨by rw [List.length_map]; exact ok.b1, by rw [List.length_map]; omega, ⟨fun p hp => ?_, fun i p q hp hq => ?_⟩, by unfold farW; rw [List.length_map]; omega, ?_⟩
  · obtain ⟨x, hx, rfl⟩ := List.mem_map.mp hp
    have h1 := ok.wo.1 x hx
    have h2 : c * x.1 < c * x.2 := Int.mul_lt_mul_of_pos_left h1 (by omega)
    show c * x.1 + sh < c * x.2 + sh
    omega
  · unfold farW at hp hq
    rw [List.getElem?_map] at hp hq
    cases h1 : ws[i]? with
    | none => rw [h1] at hp; cases hp
    | some x =>
      cases h2 : ws[i + 1]? with
      | none => rw [h2] at hq; cases hq
      | some y =>
        rw [h1] at hp
        rw [h2] at hq
        cases hp
        cases hq
        have h3 := ok.wo.2 i x y h1 h2
        have h4 : c * x.2 ≤ c * y.1 := Int.mul_le_mul_of_nonneg_left h3 (by omega)
        show c * x.2 + sh ≤ c * y.1 + sh
        omega
  · have h1 : c * 1 ≤ c * n := Int.mul_le_mul_of_nonneg_left ok.n1 (by omega)
    omega
end RS
namespace RS
open PySem L2 LamX
/-! ### what a lambda's making leaves as it is: all but the tables -/
theorem RuleAt.extN {C : Addr} {H H' : Hp} {p g t o : Addr} {gs : List Int} {tl : Tl} (R : RuleAt C H p g t o gs tl) (e : ExtN H H') : RuleAt C H' p g t o gs tl :=
  ⟨let ⟨dx, h⟩ := R.ob; ⟨dx, e _ _ h (fun _ z => by cases z)⟩, e _ _ R.hg (fun _ z => by cases z), e _ _ R.ht (fun _ z => by cases z), e _ _ R.ho (fun _ z => by cases z), R.okG, R.okT⟩
theorem SceneAt.extN {C CS a : Addr} {H H' : Hp} {p r g t o s w : Addr} {gs : List Int} {tl : Tl} {bs : List Int} {rs : List V} {ws : List (Int × Int)} {n : Int} (S : SceneAt C CS a H p r g t o s w gs tl bs rs ws n) (e : ExtN H H') : SceneAt C CS a H' p r g t o s w gs tl bs rs ws n :=
  ⟨let ⟨dx, h⟩ := S.ob; ⟨dx, e _ _ h (fun _ z => by cases z)⟩, S.R.extN e, e _ _ S.hs (fun _ z => by cases z), e _ _ S.hw (fun _ z => by cases z), S.tp.imp fun b f x h => e _ _ h (fun _ z => by cases z), S.ok, S.na⟩
theorem Tabs.same {T : List (Addr × Str)} {H H' : Hp} (t : Tabs T H) (s : Same H H') : Tabs T H' := fun p hp => by
  obtain ⟨ps, h1, h2, h3⟩ := t p hp
  exact ⟨ps, s _ _ h1, h2, fun pos cv h => by
    obtain ⟨c0, e1, e2⟩ := h3 pos cv h
    exact ⟨c0, e1, s _ _ e2⟩⟩
/-- a text of Lean's is one of Python's -/
theorem strOk_of (s : String) : PyData.strOk (Str.ofString s) = true := by
  show (Str.ofString s).cps.all (· < 0x110000) = true
  rw [Array.all_eq_true']
  intro x hx
  rw [Str.ofString_eq_toList] at hx
  have hx : x ∈ (s.toList.map Char.toNat).toArray := hx
  rw [List.mem_toArray, List.mem_map] at hx
  obtain ⟨c, _, rfl⟩ := hx
  refine decide_eq_true ?_
  have := c.valid
  show c.val.toNat < 1114112
  rcases this with h | ⟨_, h⟩
  · have : c.val.toNat < 55296 := h
    omega
  · exact h
/-- a value that is no client, and its text -/
structure CliAt (K : PySem.W.Frag) (H : Hp) (m : Nat) (x : V) (d : PyData) : Prop where
  bad : ∀ H', ExtN H H' → BadCl K H' m x
  rd : ∀ H', ExtN H H' → DpR K H' x d
  ok : ReprOk d
  sk : PyData.strOk d.shown = true
section
variable {K : PySem.W.Frag} {H : Hp} {m : Nat}
theorem CliAt.later {x : V} {d : PyData} {H' : Hp} (o : CliAt K H m x d) (e : ExtN H H') : CliAt K H' m x d := ⟨fun H2 e2 => o.bad H2 (e.trans e2), fun H2 e2 => o.rd H2 (e.trans e2), o.ok, o.sk⟩
theorem cli_int {i : Int} (h : i < 0 ∨ (m : Int) ≤ i) (z : i.natAbs.log2 < 1920) : CliAt K H m (.int i) (.int i) := ⟨fun _ _ => .inr ⟨i, rfl, h⟩, fun _ _ => .inl (.int i), repr_int z, strOk_of _⟩
theorem cli_bool (b : Bool) : CliAt K H m (.bl b) (.bool b) := ⟨fun H' _ => .inl ((oddAt_bool (H := H') b).odd _ (Same.refl _)), fun _ _ => .inl (.bl b), repr_bool b, (by cases b <;> decide +kernel)⟩
theorem cli_none : CliAt K H m .non .none := ⟨fun H' _ => .inl ((oddAt_none (H := H')).odd _ (Same.refl _)), fun _ _ => .inl .non, repr_none, (by decide +kernel)⟩
theorem cli_str : CliAt K H m (.str "0") (.str "0") := ⟨fun H' _ => .inl ((oddAt_str (H := H')).odd _ (Same.refl _)), fun _ _ => .inl (.str _), repr_zero, (by decide +kernel)⟩
theorem cli_list {a : Addr} (h : H a = some (.lst [.int 0])) : CliAt K H m (.ref a) (.list [.int 0]) :=
  ⟨fun H' e => .inl ((oddAt_list (e _ _ h (fun _ z => by cases z))).odd H' (Same.refl _)), fun H' e => (oddAt_list (e _ _ h (fun _ z => by cases z))).rd H' (Same.refl _), repr_list0, (by decide +kernel)⟩
theorem cli_dict {a : Addr} (h : H a = some (.dK [])) : CliAt K H m (.ref a) (.dict []) :=
  ⟨fun H' e => .inl ((oddAt_dict (e _ _ h (fun _ z => by cases z))).odd H' (Same.refl _)), fun H' e => (oddAt_dict (e _ _ h (fun _ z => by cases z))).rd H' (Same.refl _), repr_dict0, (by decide +kernel)⟩
end
end RS
namespace RS
open PySem L2 LamX
theorem Tabs.kx {T : List (Addr × Str)} {H H' : Hp} {a : Addr} {b : Nat} (t : Tabs T H) (R : Src H a b) (k : Kx a H H') : Tabs T H' := fun p hp => by
  obtain ⟨s0, s1, s2, ha, _⟩ := R.ex
  have ne : ∀ {c : Addr} {u : HO}, H c = some u → (∀ xs, u ≠ .lst xs) → c ≠ a := fun {c u} h n e => by
    rw [e, ha] at h
    exact n _ (Option.some.inj h).symm
  obtain ⟨ps, h1, h2, h3⟩ := t p hp
  exact ⟨ps, k _ _ (ne h1 (fun _ z => by cases z)) h1, h2, fun pos cv h => by
    obtain ⟨c0, e1, e2⟩ := h3 pos cv h
    exact ⟨c0, e1, k _ _ (ne e2 (fun _ z => by unfold CodeO at z; cases z)) e2⟩⟩
end RS
namespace RS
open PySem L2 LamX
theorem pair_shaped {w x : Str} (h1 : PyData.strOk w = true) (h2 : PyData.strOk x = true) : SeqAt.shaped (.tuple [.str w, .str x]) = true := by
  simp [SeqAt.shaped, PyData.canLay0, PyData.canLayAll0, PyData.depth, PyData.depthAll, h1, h2]
theorem pair_eqv (w x : Str) : PyData.eqv (.tuple [.str w, .str x]) (.tuple [.str w, .str x]) = true := by
  simp [PyData.eqv, PyData.eqvAll]
theorem sk_client : PyData.strOk ("client" : Str) = true := by decide +kernel
theorem sk_attempt : PyData.strOk ("attempt" : Str) = true := by decide +kernel
theorem sk_slot : PyData.strOk ("slot" : Str) = true := by decide +kernel
end RS
namespace RS
open PySem L2 LamX
/-- a value that is no attempt, and its text -/
structure AttAt (K : PySem.W.Frag) (H : Hp) (gs : List Int) (tl : Tl) (x : V) (d : PyData) : Prop where
  bad : ∀ H', ExtN H H' → Refused K H' gs tl x
  rd : ∀ H', ExtN H H' → DpR K H' x d
  ok : ReprOk d
  sk : PyData.strOk d.shown = true
theorem AttAt.later {K : PySem.W.Frag} {H H' : Hp} {gs : List Int} {tl : Tl} {x : V} {d : PyData} (o : AttAt K H gs tl x d) (e : ExtN H H') : AttAt K H' gs tl x d := ⟨fun H2 e2 => o.bad H2 (e.trans e2), fun H2 e2 => o.rd H2 (e.trans e2), o.ok, o.sk⟩
/-- what is no client for being no integer is no attempt -/
theorem AttAt.of_cli {K : PySem.W.Frag} {H : Hp} {gs : List Int} {tl : Tl} {m : Nat} {x : V} {d : PyData} (o : CliAt K H m x d) (n : ∀ i, x ≠ .int i) : AttAt K H gs tl x d :=
  ⟨fun H' e => (o.bad H' e).elim .inl fun ⟨i, h, _⟩ => absurd h (n i), o.rd, o.ok, o.sk⟩
theorem AttAt.int {K : PySem.W.Frag} {H : Hp} {gs : List Int} {tl : Tl} {i : Int} (h : i < 0 ∨ (tl = .fin ∧ (gs.length : Int) < i)) (z : i.natAbs.log2 < 1920) : AttAt K H gs tl (.int i) (.int i) :=
  ⟨fun _ _ => .inr ⟨i, rfl, h⟩, fun _ _ => .inl (.int i), repr_int z, strOk_of _⟩
/-- what is no slot -/
structure SltAt (K : PySem.W.Frag) (H : Hp) (x : V) (d : PyData) : Prop where
  bad : ∀ H', ExtN H H' → OddV K H' x
  rd : ∀ H', ExtN H H' → DpR K H' x d
  ok : ReprOk d
  sk : PyData.strOk d.shown = true
theorem SltAt.later {K : PySem.W.Frag} {H H' : Hp} {x : V} {d : PyData} (o : SltAt K H x d) (e : ExtN H H') : SltAt K H' x d := ⟨fun H2 e2 => o.bad H2 (e.trans e2), fun H2 e2 => o.rd H2 (e.trans e2), o.ok, o.sk⟩
theorem SltAt.of_cli {K : PySem.W.Frag} {H : Hp} {m : Nat} {x : V} {d : PyData} (o : CliAt K H m x d) (n : ∀ i, x ≠ .int i) : SltAt K H x d :=
  ⟨fun H' e => (o.bad H' e).elim id fun ⟨i, h, _⟩ => absurd h (n i), o.rd, o.ok, o.sk⟩
end RS
namespace RS
open PySem L2 LamX
theorem limit_shaped : SeqAt.shaped (.tuple [.str "limit", .int 1000]) = true := by decide +kernel
theorem limit_eqv : PyData.eqv (.tuple [.str "limit", .int 1000]) (.tuple [.str "limit", .int 1000]) = true := by
  simp [PyData.eqv, PyData.eqvAll]
def rightN : List Str := ["_law_well_here", "_law_parts_here", "_law_steps", "_law_ending", "_law_begins", "_law_windows_here", "_law_long", "_law_made_here", "_law_offsets_here", "_law_client", "_law_odd", "_law_due", "_law_last"]
theorem scRight : FnScope rightN ["_law_well_here"] (defScope s_law_right) := ⟨rfl, rfl, rfl, by decide +kernel, rfl, by decide +kernel, by decide +kernel⟩
section
variable {P : Program} {w : World} {K : PySem.W.Frag} {mg : Str → Option Value} {base : Heap}
def spRight (Tb : List (Addr × Str)) : Sp := fun vs H Q _ => ∃ (a : Addr) (b : Nat), vs = [.ref a] ∧ Src H a b ∧ b ≤ 1000 ∧ Tabs Tb H ∧ ∀ H', Tabs Tb H' → (∀ c o, c ≠ a → H c = some o → (∀ ps, o ≠ .tbl ps) → H' c = some o) → Q (.bl true) H'
theorem ok_right {f c P0 C CS CA CL CC CSl fF fP fN fM fO fFR fSR fWR fSl fAi fOu fSa : Addr} {fdF fdP fdN fdM fdO fdFR fdSR fdWR fdSl fdAi fdOu fdSa : FuncData} {oc kV doc pm ct : Value} {od an : Option Addr} {osl : Array (Option Value)} {Tb : List (Addr × Str)} {CR CSc CB CRu CLo CRe CTx : Addr}
    (lk : K.lookup f = some ⟨oc, od, .func (PySem.W.fnOf "_law_right" "_law_right" (defArgs s_law_right) (defBody s_law_right) (defScope s_law_right) .none kV doc pm an (.ref c) ct), osl⟩) (hcd : PySem.W.codeIn K (.ref c) "_law_right" = true) (T : Txt K mg C) (TS : TxtS K mg CS)
    (TX : SaidTxt mg CR CSc CC CSl CA CB CL CRu CLo CRe CTx) (kC : ErKind K CR CSc CC CSl CA CB CL CRu CLo CRe CTx CC true false false false) (nC : PySem.W.findIn K (.ref CC) "client" = some none) (kS : ErKind K CR CSc CC CSl CA CB CL CRu CLo CRe CTx CSl false true false false) (nS : PySem.W.findIn K (.ref CSl) "slot" = some none)
    (kA : ErKind K CR CSc CC CSl CA CB CL CRu CLo CRe CTx CA false false true false) (nA : PySem.W.findIn K (.ref CA) "attempt" = some none) (kL : ErKind K CR CSc CC CSl CA CB CL CRu CLo CRe CTx CL false false false true) (nL : PySem.W.findIn K (.ref CL) "limit" = some none) (TB : TabB base mg c P0) (hmT : (P0, ("_law_right.<locals>.<lambda>" : Str)) ∈ Tb) (hu : ∀ p ∈ Tb, p.1 = P0 → p.2 = ("_law_right.<locals>.<lambda>" : Str))
    (Fs : Fun K "_law_said" "_law_said" s_law_said fSa fdSa) (bSa : L2.Binds K fdSa ["_law_ask"] []) (mSa : mg "_law_said" = some (.ref fSa))
    (GF : FnOk P w K mg base CX0 1 fF fdF ["_law_parts_here", "_law_factor", "_law_shift"] spFar) (bF : Binds K fdF ["_law_parts_here", "_law_factor", "_law_shift"] []) (mF : mg "_law_far" = some (.ref fF)) (kF : PySem.W.keepIn K (.ref fF) = true)
    (GP : FnOk P w K mg base CX0 5 fP fdP ["_law_well_here"] spPts) (bP : Binds K fdP ["_law_well_here"] []) (mP : mg "_law_parts" = some (.ref fP)) (kP : PySem.W.keepIn K (.ref fP) = true)
    (GN : FnOk P w K mg base CX0 2 fN fdN ["_law_well_here", "_law_many"] spNext) (bN : Binds K fdN ["_law_well_here", "_law_many"] []) (mN : mg "_law_draw" = some (.ref fN)) (kN : PySem.W.keepIn K (.ref fN) = true)
    (GM : FnOk P w K mg base CX0 7 fM fdM ["_law_parts_here"] (spMade C CS)) (bM : Binds K fdM ["_law_parts_here"] []) (mM : mg "_law_made" = some (.ref fM)) (kM : PySem.W.keepIn K (.ref fM) = true)
    (GO : FnOk P w K mg base CX0 1 fO fdO ["_law_steps", "_law_ending", "_law_most"] spOfs) (bO : Binds K fdO ["_law_steps", "_law_ending", "_law_most"] []) (mO : mg "_law_offsets" = some (.ref fO)) (kO : PySem.W.keepIn K (.ref fO) = true)
    (GFR : FnOk P w K mg base CX0 8 fFR fdFR ["_law_well_here", "_law_made_here", "_law_parts_here", "_law_client"] (spFQ C CS)) (bFR : Binds K fdFR ["_law_well_here", "_law_made_here", "_law_parts_here", "_law_client"] []) (mFR : mg "_law_far_right" = some (.ref fFR)) (kFR : PySem.W.keepIn K (.ref fFR) = true)
    (GSR : FnOk P w K mg base CX0 8 fSR fdSR ["_law_made_here", "_law_begins", "_law_offsets_here", "_law_client"] (spSR C CS)) (bSR : Binds K fdSR ["_law_made_here", "_law_begins", "_law_offsets_here", "_law_client"] []) (mSR : mg "_law_slots_right" = some (.ref fSR)) (kSR : PySem.W.keepIn K (.ref fSR) = true)
    (GWR : FnOk P w K mg base CX0 5 fWR fdWR ["_law_made_here", "_law_windows_here"] (spWR C CS)) (bWR : Binds K fdWR ["_law_made_here", "_law_windows_here"] []) (mWR : mg "_law_windows_right" = some (.ref fWR)) (kWR : PySem.W.keepIn K (.ref fWR) = true)
    (GSl : FnOk P w K mg base (L2.CX P w) 5 fSl fdSl ["self", "client", "attempt"] (spSlot K C CS CA CL CC)) (bSl : Binds K fdSl ["self", "client", "attempt"] []) (mSl : Meth K CS "slot_of" fSl)
    (GAi : FnOk P w K mg base (L2.CX P w) 7 fAi fdAi ["self", "client", "slot"] (spAin K C CS CSl CC)) (bAi : Binds K fdAi ["self", "client", "slot"] []) (mAi : Meth K CS "attempt_in" fAi)
    (GOu : FnOk P w K mg base (L2.CX P w) 4 fOu fdOu ["self", "slot"] (spOut K C CS CSl)) (bOu : Binds K fdOu ["self", "slot"] []) (mOu : Meth K CS "outage_at" fOu) :
    FnG P w K mg base 10 f (PySem.W.fnOf "_law_right" "_law_right" (defArgs s_law_right) (defBody s_law_right) (defScope s_law_right) .none kV doc pm an (.ref c) ct) ["_law_well_here"] (spRight Tb) := by
  refine calm_at lk hcd scRight (fun {vs H Q E} h => ?_) (fun A outer s H vs Q E calm hr h => ?_)
  · obtain ⟨a, b, rfl, _⟩ := h
    rfl
  · obtain ⟨a, b, rfl, R, hb, hTb, k⟩ := h
    have hr1 := hr.mono (show 1 ≤ 9 by decide)
    have hr2 := hr.mono (show 2 ≤ 9 by decide)
    have hr5 := hr.mono (show 5 ≤ 9 by decide)
    have hr7 := hr.mono (show 7 ≤ 9 by decide)
    have hr8 := hr.mono (show 8 ≤ 9 by decide)
    have hr6 := hr.mono (show 6 ≤ 9 by decide)
    obtain ⟨ocs, ods, kVs, docs, pms, ans, cdvs, cts, osls, rfl, lks, hcds⟩ := Fs.ex
    obtain ⟨ts, hG, told⟩ := said_walk (X := (cxOf CX0 P w K mg base rightN "_law_right" (defScope s_law_right) f (.ref c) A outer s H E).nox) (q := "_law_right.<locals>.<lambda>") (g := fSa) (cdg := cdvs) TX calm (by have := hr.un; show (A.deeper _).units + 128 < cLine; omega)
    refine ⟨_, (pss_cons (ps_set (i := 1) scRight.nd rfl (Or.inl rfl) (pe_call GF hr1 rfl mF kF bF .nil pass0 (pa_cons (pe_call GP hr5 rfl mP kP bP .nil pass0 (pa_cons (pv 0) pa_nil)) (pa_cons (pe_op op_add pe_int (pe_call GN hr2 rfl mN kN bN .nil pass0 (pa_cons (pv 0) (pa_cons (pe_op op_pow pe_int pe_int) pa_nil)))) (pa_cons (pe_op op_sub (pe_call GN hr2 rfl mN kN bN .nil pass0 (pa_cons (pv 0) (pa_cons (pe_op op_pow pe_int pe_int) pa_nil))) (pe_op op_pow pe_int pe_int)) pa_nil)))))
      (pss_cons (ps_asg (pv 1) (pg_tup rfl (pgs_cons (pg_name (i := 2) scRight.nd rfl (Or.inl rfl)) (pgs_cons (pg_name (i := 3) scRight.nd rfl (Or.inl rfl)) (pgs_cons (pg_name (i := 4) scRight.nd rfl (Or.inl rfl)) (pgs_cons (pg_name (i := 5) scRight.nd rfl (Or.inl rfl)) (pgs_cons (pg_name (i := 6) scRight.nd rfl (Or.inl rfl)) pgs_nil)))))))
      (pss_cons (ps_asg (pe_tup (pa_cons (pe_call GM hr7 rfl mM kM bM .nil pass0 (pa_cons (pv 1) pa_nil)) (pa_cons (pe_call GO hr1 rfl mO kO bO .nil pass0 (pa_cons (pv 2) (pa_cons (pv 3) (pa_cons pe_int pa_nil)))) pa_nil))) (pg_tup rfl (pgs_cons (pg_name (i := 7) scRight.nd rfl (Or.inr rfl)) (pgs_cons (pg_name (i := 8) scRight.nd rfl (Or.inl rfl)) pgs_nil))))
      (pss_cons (ps_set (i := 9) scRight.nd rfl (Or.inr rfl) (pe_call GN hr2 rfl mN kN bN .nil pass0 (pa_cons (pv 0) (pa_cons (pe_callB call_len_seq (by rfl) T.len (by decide +kernel) (pa_cons (pv 4) pa_nil)) pa_nil))))
      (Evl.pss_cut (ps_if (PW.pt (pw_and (pt_cmpR op_eq (pe_ix ix_tup (pv 3) pe_int (fun _ _ => rfl)) pe_str (nomark _)) (pw_and1 (pt_not (pt_val (pe_call GFR hr8 rfl mFR kFR bFR .nil pass0 (pa_cons (pv 0) (pa_cons (pv 7) (pa_cons (pv 1) (pa_cons (pv 9) pa_nil)))))))))) (pss_one (ps_ret pe_bl)) pss_nil)
      (pss_cons (ps_if (PW.pt (pw_or (pt_not (pt_val (pe_call GSR hr8 rfl mSR kSR bSR .nil pass0 (pa_cons (pv 7) (pa_cons (pv 4) (pa_cons (pv 8) (pa_cons (pv 9) pa_nil))))))) (pw_or1 (pt_not (pt_val (pe_call GWR hr5 rfl mWR kWR bWR .nil pass0 (pa_cons (pv 7) (pa_cons (pv 5) pa_nil)))))))) (pss_one (ps_ret pe_bl)) pss_nil)
      (pss_cons (ps_for PassesOwn.never rfl (pi_list (pe_lst (pa_cons (pe_un un_neg pe_int) (pa_cons (pe_callB call_len_seq (by rfl) T.len (by decide +kernel) (pa_cons (pv 4) pa_nil)) (pa_cons pe_bl (pa_cons pe_non (pa_cons pe_str (pa_cons (pe_lst (pa_cons pe_int pa_nil)) (pa_cons (pe_op op_pow pe_int pe_int) (pa_cons pe_dnewK pa_nil)))))))))) (pg_name (i := 10) scRight.nd rfl (Or.inr rfl))
        (pss_cons (ps_set (i := 11) scRight.nd rfl (Or.inl rfl) (pe_tup (pa_cons pe_str (pa_cons (pe_callB (call_told (by exact calm) (by have := hr.un; show (A.deeper _).units + 64 < cLine; omega)) (by rfl) TX.rep (by decide +kernel) (pa_cons (pv 10) pa_nil)) pa_nil)))) (pss_cons (ps_if (pt_cmpR (op_neD hr.units) (pe_lamcall (T := Tb) (k := 7) (by rfl) mSa Fs.kp lks hcds bSa scSaid rfl (.inl rfl) hG TB rfl hmT hu hr (lamS_by (by show lamSB (defScope s_law_right) _ = true; decide +kernel)) rfl (fun _ _ _ _ _ => rfl) (fun A2 o2 s2 H2 E2 f2 c2 hr2 => (pe_meth (E := E2) (pv 7) TS.cl mSl GSl (hr2.mono (show 5 ≤ 7 by decide)) bSl .nil (passUp (takes_of rfl rfl rfl rfl)) (pa_cons (pv 10) (pa_cons (pe_un un_neg pe_int) pa_nil))))) (pv 11) (nomark _)) (pss_one (ps_ret pe_bl)) pss_nil) (pss_one (ps_if (pt_cmpR (op_neD hr.units) (pe_lamcall (T := Tb) (k := 7) (by rfl) mSa Fs.kp lks hcds bSa scSaid rfl (.inl rfl) hG TB rfl hmT hu hr (lamS_by (by show lamSB (defScope s_law_right) _ = true; decide +kernel)) rfl (fun _ _ _ _ _ => rfl) (fun A2 o2 s2 H2 E2 f2 c2 hr2 => (pe_meth (E := E2) (pv 7) TS.cl mAi GAi (hr2.mono (show 7 ≤ 7 by decide)) bAi .nil (passUp (takes_of rfl rfl rfl rfl)) (pa_cons (pv 10) (pa_cons pe_non pa_nil))))) (pv 11) (nomark _)) (pss_one (ps_ret pe_bl)) pss_nil)))))
      (pss_cons (ps_for PassesOwn.never rfl (pi_list (pe_op op_cat (pe_lst (pa_cons (pe_un un_neg pe_int) (pa_cons pe_bl (pa_cons pe_non (pa_cons pe_str (pa_cons (pe_lst (pa_cons pe_int pa_nil)) (pa_cons pe_dnewK pa_nil))))))) (pe_op op_rep (pe_lst (pa_cons (pe_callB call_len_seq (by rfl) T.len (by decide +kernel) (pa_cons (pv 8) pa_nil)) pa_nil)) (pe_callTy call_int1 (by rfl) T.int (by decide +kernel) (pa_cons (pe_cmpR op_eq (pe_ix ix_tup (pv 3) pe_int (fun _ _ => rfl)) pe_str (nomark _)) pa_nil))))) (pg_name (i := 10) scRight.nd rfl (Or.inr rfl))
        (pss_one (ps_if (pt_cmpR (op_neD hr.units) (pe_lamcall (T := Tb) (k := 7) (by rfl) mSa Fs.kp lks hcds bSa scSaid rfl (.inl rfl) hG TB rfl hmT hu hr (lamS_by (by show lamSB (defScope s_law_right) _ = true; decide +kernel)) rfl (fun _ _ _ _ _ => rfl) (fun A2 o2 s2 H2 E2 f2 c2 hr2 => (pe_meth (E := E2) (pv 7) TS.cl mSl GSl (hr2.mono (show 5 ≤ 7 by decide)) bSl .nil (passUp (takes_of rfl rfl rfl rfl)) (pa_cons (pv 9) (pa_cons (pv 10) pa_nil))))) (pe_tup (pa_cons pe_str (pa_cons (pe_callB (call_told (by exact calm) (by have := hr.un; show (A.deeper _).units + 64 < cLine; omega)) (by rfl) TX.rep (by decide +kernel) (pa_cons (pv 10) pa_nil)) pa_nil))) (nomark _)) (pss_one (ps_ret pe_bl)) pss_nil)))
      (Evl.pss_cut (ps_if (pt_cmpR op_eq (pe_ix ix_tup (pv 3) pe_int (fun _ _ => rfl)) pe_str (nomark _)) (pss_cons (ps_set (i := 12) scRight.nd rfl (Or.inl rfl) (pe_ix ix_list (pe_call GO hr1 rfl mO kO bO .nil pass0 (pa_cons (pv 2) (pa_cons (pv 3) (pa_cons pe_int pa_nil)))) pe_int (fun _ _ => rfl))) (pss_cons (ps_if (pt_cmpR op_ne (pe_meth (E := fun _ _ _ => False) (pv 7) TS.cl mSl GSl hr5 bSl .nil pass0X (pa_cons (pv 9) (pa_cons pe_int pa_nil))) (pe_op op_add (pe_ix ix_list (pv 4) (pv 9) (fun _ _ => rfl)) (pv 12)) (nomark _)) (pss_one (ps_ret pe_bl)) pss_nil) (pss_one (ps_if (pt_cmpR (op_neD hr.units) (pe_lamcall (T := Tb) (k := 7) (by rfl) mSa Fs.kp lks hcds bSa scSaid rfl (.inl rfl) hG TB rfl hmT hu hr (lamS_by (by show lamSB (defScope s_law_right) _ = true; decide +kernel)) rfl (fun _ _ _ _ _ => rfl) (fun A2 o2 s2 H2 E2 f2 c2 hr2 => (pe_meth (E := E2) (pv 7) TS.cl mSl GSl (hr2.mono (show 5 ≤ 7 by decide)) bSl .nil (passUp (takes_of rfl rfl rfl rfl)) (pa_cons (pv 9) (pa_cons pe_int pa_nil))))) (pe_tup (pa_cons pe_str (pa_cons pe_int pa_nil))) (nomark _)) (pss_one (ps_ret pe_bl)) pss_nil)))) pss_nil)
      (pss_cons (ps_for PassesOwn.never rfl (pi_list (pe_lst (pa_cons pe_bl (pa_cons pe_non (pa_cons pe_str (pa_cons (pe_lst (pa_cons pe_int pa_nil)) (pa_cons pe_dnewK pa_nil))))))) (pg_name (i := 10) scRight.nd rfl (Or.inr rfl))
        (pss_cons (ps_if (pt_cmpR (op_neD hr.units) (pe_lamcall (T := Tb) (k := 7) (by rfl) mSa Fs.kp lks hcds bSa scSaid rfl (.inl rfl) hG TB rfl hmT hu hr (lamS_by (by show lamSB (defScope s_law_right) _ = true; decide +kernel)) rfl (fun _ _ _ _ _ => rfl) (fun A2 o2 s2 H2 E2 f2 c2 hr2 => (pe_meth (E := E2) (pv 7) TS.cl mAi GAi (hr2.mono (show 7 ≤ 7 by decide)) bAi .nil (passUp (takes_of rfl rfl rfl rfl)) (pa_cons (pv 9) (pa_cons (pv 10) pa_nil))))) (pe_tup (pa_cons pe_str (pa_cons (pe_callB (call_told (by exact calm) (by have := hr.un; show (A.deeper _).units + 64 < cLine; omega)) (by rfl) TX.rep (by decide +kernel) (pa_cons (pv 10) pa_nil)) pa_nil))) (nomark _)) (pss_one (ps_ret pe_bl)) pss_nil) (pss_one (ps_if (pt_cmpR (op_neD hr.units) (pe_lamcall (T := Tb) (k := 7) (by rfl) mSa Fs.kp lks hcds bSa scSaid rfl (.inl rfl) hG TB rfl hmT hu hr (lamS_by (by show lamSB (defScope s_law_right) _ = true; decide +kernel)) rfl (fun _ _ _ _ _ => rfl) (fun A2 o2 s2 H2 E2 f2 c2 hr2 => (pe_meth (E := E2) (pv 7) TS.cl mOu GOu (hr2.mono (show 4 ≤ 7 by decide)) bOu .nil (passUp (takes_of rfl rfl rfl rfl)) (pa_cons (pv 10) pa_nil)))) (pe_tup (pa_cons pe_str (pa_cons (pe_callB (call_told (by exact calm) (by have := hr.un; show (A.deeper _).units + 64 < cLine; omega)) (by rfl) TX.rep (by decide +kernel) (pa_cons (pv 10) pa_nil)) pa_nil))) (nomark _)) (pss_one (ps_ret pe_bl)) pss_nil))))
      (pss_one (ps_ret pe_bl)))))))))))), ?_⟩
    refine ⟨_, rfl, a, b, rfl, R, by omega, fun u0 g0 t0 s0 w0 n0 gs0 tl bs0 rs0 ws0 H1 B1 ok kx1 R1 => ?_⟩
    refine ⟨_, rfl, _, _, rfl, rfl, ⟨by decide, by decide, by decide⟩, a, _, b + 60, rfl, R1, by omega, by decide, by decide, fun z1 H2 z10 z11 kx2 R2 => ⟨_, _, rfl, rfl, ?_⟩⟩
    refine ⟨_, rfl, _, _, rfl, rfl, ⟨by decide, by decide, by decide⟩, a, _, b + 61, rfl, R2, by omega, by decide, by decide, fun z2 H3 z20 z21 kx3 R3 => ⟨_, _, rfl, rfl, ⟨by decide, by decide, by decide⟩, _, _, rfl, rfl, ?_⟩⟩
    have kx13 := kx2.trans kx3
    have B3 := B1.kx kx13
    have c1 : 1 ≤ 1 + z1 := by omega
    have c2 : 1 + z1 ≤ 1000000000 := by
      have : z1 < (10 : Int) ^ (9 : Int).toNat := z11
      have e : (10 : Int) ^ (9 : Int).toNat = 1000000000 := by decide
      omega
    have hz3 : ∃ z, H3 a = some z := by
      obtain ⟨_, _, _, e, _⟩ := R3.ex
      exact ⟨_, e⟩
    refine ⟨a, u0, g0, t0, s0, w0, n0, 1 + z1, z2 - (10 : Int) ^ (27 : Int).toNat, gs0, tl, bs0, rs0, ws0, rfl, B3, hz3, ok, c1, c2, fun u g s1 w1 rs H4 S4 B4 => ?_⟩
    have K4 : Kx a H H4 := (kx1.trans kx13).trans (Kx.of S4)
    have okG := far_gaps ok c1 c2
    have okT := far_tail (c := 1 + z1) ok
    have okS := far_scene (sh := z2 - (10 : Int) ^ (27 : Int).toNat) ok c1
    have R4 := R3.mono S4
    have hwl : (farW (1 + z1) (z2 - (10 : Int) ^ (27 : Int).toNat) ws0).length ≤ 3 := by
      unfold farW
      rw [List.length_map]
      exact ok.w3
    have hbl : (bs0.map ((1 + z1) * · + (z2 - (10 : Int) ^ (27 : Int).toNat))).length ≤ 8 := by
      rw [List.length_map]
      exact ok.b8
    have hb1 : 1 ≤ (bs0.map ((1 + z1) * · + (z2 - (10 : Int) ^ (27 : Int).toNat))).length := okS.b1
    generalize gs0.map ((1 + z1) * ·) = gs at B4 okG okT
    generalize (bs0.map ((1 + z1) * · + (z2 - (10 : Int) ^ (27 : Int).toNat))) = bs at B4 okS hbl hb1
    generalize farW (1 + z1) (z2 - (10 : Int) ^ (27 : Int).toNat) ws0 = ws at B4 okS hwl
    generalize (1 + z1) * n0 = n at B4 okS
    clear kx1 R1 R2 kx2 kx3 R3 B1 B3 kx13 hz3 S4
    refine ⟨_, rfl, u, _, rfl, SqT.of B4.hu, rfl, _, _, rfl, _, _, rfl, _, _, rfl, _, _, rfl, _, _, rfl, rfl, ?_⟩
    have hz4 : ∃ z, H4 a = some z := by
      obtain ⟨_, _, _, e, _⟩ := R4.ex
      exact ⟨_, e⟩
    -- the scene and the offsets
    refine ⟨_, rfl, a, u, g, t0, s1, w1, n, gs, tl, bs, rs, ws, rfl, B4, hz4, okG, okT, okS, fun p r g2 t2 o s2 w2 rs2 H5 S5 SA5 => ?_⟩
    have B5 := B4.kx (Kx.of S5)
    have R5 := R4.mono S5
    refine ⟨_, rfl, _, rfl, g, t0, gs, tl, 30, rfl, by decide, by decide, B5.hg, B5.ht, okG, okT, fun lo H6 lon S6 hlo => ?_⟩
    have loa : lo ≠ a := (R5.new lon).symm
    refine ⟨(by show 2 ≤ sizeLine; decide), fun tt htt => ?_⟩
    have S7 := S6.trans (same_new (o := .tup [V.ref p, .ref lo]) htt)
    have hlo7 := same_new (o := .tup [V.ref p, .ref lo]) htt _ _ hlo
    refine ⟨tt, _, rfl, SqT.of upd_same, rfl, _, _, rfl, _, _, rfl, rfl, ?_⟩
    generalize (upd H6 tt (.tup [V.ref p, .ref lo])) = H7 at S7 hlo7 ⊢
    have K7 := (K4.trans (Kx.of S5)).trans (Kx.of S7)
    have B7 := B5.kx (Kx.of S7)
    have SA7 := SA5.kx (Kx.of S7)
    have R7 := R5.mono S7
    clear B5 SA5 R5 B4 R4 hz4 S6 hlo htt
    refine ⟨_, rfl, _, rfl, s1, _, rfl, .inl (SqL.of B7.hs), a, ((bs.length : Nat) : Int), b + 62, ?_, R7, by omega, by omega, by omega, fun cz H8 cz0 cz1 kx8 R8 => ?_⟩
    · rw [List.length_map]
      rfl
    obtain ⟨cl, rfl⟩ : ∃ n : Nat, cz = (n : Int) := ⟨cz.toNat, by omega⟩
    have hcl : cl < bs.length := by omega
    have K8 := K7.trans kx8
    have B8 := B7.kx kx8
    have SA8 := SA7.kx kx8
    have hlo8 := kx8 _ _ loa hlo7
    clear kx8 B7 SA7 R7 hlo7 S7
    -- from here on: what stands
    have B8g := B8.hg
    refine ⟨fun σ H9 => σ = [some (.ref a), some (.ref u), some (.ref g), some (.ref t0), some (.ref s1), some (.ref w1), some (.int n), some (.ref p), some (.ref lo), some (.int (cl : Int)), none, none, none] ∧ Kx a H8 H9 ∧ Src H9 a (b + 80), ?_, ?_⟩
    · refine ⟨_, rfl, t0, _, _, _, rfl, rfl, SqT.of B8.ht, tl.at0, rfl, _, rfl, ?_⟩
      cases tl with
      | fin => exact iteFb wER (iteF ⟨rfl, fun _ _ _ e => e, R8.le (by omega)⟩)
      | times b' => exact iteFb wTR (iteF ⟨rfl, fun _ _ _ e => e, R8.le (by omega)⟩)
      | rep m =>
        refine iteTb wRR ⟨_, rfl, _, rfl, _, rfl, _, rfl, a, p, r, g2, t2, o, s2, w2, u, g, t0, s1, w1, b + 63, gs, m, bs, rs2, rs, ws, n, cl, rfl, SA8, B8, R8, by omega, hcl, fun H9 kx9 R9 => ?_⟩
        exact ⟨true, rfl, iteF ⟨rfl, kx9, R9.le (by omega)⟩⟩
    rintro _ H9 ⟨rfl, kx9, R9⟩
    have K9 := K8.trans kx9
    have B9 := B8.kx kx9
    have SA9 := SA8.kx kx9
    have hlo9 := kx9 _ _ loa hlo8
    clear kx9 B8 SA8 hlo8 R8 B8g
    refine ⟨_, rfl, _, rfl, _, rfl, _, rfl, a, p, r, g2, t2, o, s2, w2, s1, lo, gs, tl, bs, rs2, ws, n, cl, rfl, SA9, B9.hs, hcl, hlo9, fun H10 S10 => ⟨true, rfl, iteF ?_⟩⟩
    have SA10 := SA9.kx (Kx.of S10)
    have B10 := B9.kx (Kx.of S10)
    refine ⟨_, rfl, _, rfl, a, p, r, g2, t2, o, s2, w2, w1, gs, tl, bs, rs2, rs, ws, n, rfl, SA10, B10.hw, B10.tp, fun H11 S11 => ⟨true, rfl, iteF ?_⟩⟩
    have R11 := (R9.mono S10).mono S11
    have K11 := (K9.trans (Kx.of S10)).trans (Kx.of S11)
    have T11 := Tabs.kx hTb R K11
    have SA11 := SA10.kx (Kx.of S11)
    have B11 := B10.kx (Kx.of S11)
    have hlo11 := S11 _ _ (S10 _ _ hlo9)
    clear B9 SA9 hlo9 SA10 B10 S10 S11 R9
    -- odd clients
    refine ⟨_, rfl, _, rfl, s1, _, rfl, .inl (SqL.of B11.hs), (by show 1 ≤ sizeLine; decide), fun l0 hl0 => ⟨_, _, rfl, rfl, ⟨by decide, by decide, by decide⟩, fun d0 hd0 => ⟨(by show 8 ≤ sizeLine; decide), fun L hL => ?_⟩⟩⟩
    have hbe : (((bs.map V.int).length : Nat) : Int) = (bs.length : Int) := by rw [List.length_map]
    rw [hbe]
    have sL := ((same_new (o := .lst [V.int 0]) hl0).trans (same_new (o := .dK []) hd0)).trans (same_new (o := .lst [V.int (-1), .int (bs.length : Int), .bl true, .non, .str "0", .ref l0, .int ((10 : Int) ^ (20 : Int).toNat), .ref d0]) hL)
    have hl12 := same_new (o := .lst [V.int (-1), .int (bs.length : Int), .bl true, .non, .str "0", .ref l0, .int ((10 : Int) ^ (20 : Int).toNat), .ref d0]) hL _ _ (same_new (o := .dK []) hd0 _ _ (upd_same (H := H11) (a := l0) (o := .lst [V.int 0])))
    have hd12 := same_new (o := .lst [V.int (-1), .int (bs.length : Int), .bl true, .non, .str "0", .ref l0, .int ((10 : Int) ^ (20 : Int).toNat), .ref d0]) hL _ _ (upd_same (H := upd H11 l0 (.lst [V.int 0])) (a := d0) (o := .dK []))
    have hL12 := upd_same (H := upd (upd H11 l0 (.lst [V.int 0])) d0 (.dK [])) (a := L) (o := .lst [V.int (-1), .int (bs.length : Int), .bl true, .non, .str "0", .ref l0, .int ((10 : Int) ^ (20 : Int).toNat), .ref d0])
    generalize (upd (upd (upd H11 l0 (.lst [V.int 0])) d0 (.dK [])) L (.lst [V.int (-1), .int (bs.length : Int), .bl true, .non, .str "0", .ref l0, .int ((10 : Int) ^ (20 : Int).toNat), .ref d0])) = H12 at sL hl12 hd12 hL12 ⊢
    have T12 := Tabs.same T11 sL
    have SA12 := SA11.kx (Kx.of sL)
    obtain ⟨dxs, hob⟩ := SA12.ob
    have nSl : (sflds r s2 w2 n).lookup ("slot_of" : Str) = none := sflds_no _ _ _ _ (by decide +kernel) (by decide +kernel) (by decide +kernel) (by decide +kernel)
    have nAi : (sflds r s2 w2 n).lookup ("attempt_in" : Str) = none := sflds_no _ _ _ _ (by decide +kernel) (by decide +kernel) (by decide +kernel) (by decide +kernel)
    refine ⟨L, rfl, ⟨_, SqL.of hL12⟩, for_list (a := L) (xs := [V.int (-1), .int (bs.length : Int), .bl true, .non, .str "0", .ref l0, .int ((10 : Int) ^ (20 : Int).toNat), .ref d0]) (fun i σ H' => (∃ v10 v11 v12, σ = [some (.ref a), some (.ref u), some (.ref g), some (.ref t0), some (.ref s1), some (.ref w1), some (.int n), some (.ref p), some (.ref lo), some (.int (cl : Int)), v10, v11, v12]) ∧ ExtN H12 H' ∧ Tabs Tb H') ⟨⟨_, _, _, rfl⟩, ExtN.refl _, T12⟩ (fun i σ H' _ p => SqL.of (p.2.1 _ _ hL12 (fun _ z => by cases z))) ?_ ?_⟩
    · rintro i x σ H13 hx ⟨⟨v10, v11, v12, rfl⟩, e13, t13⟩
      obtain ⟨d, ca⟩ : ∃ d, CliAt K H12 bs.length x d := by
        have hm := List.mem_of_getElem? hx
        have hb40 := okS.b40
        simp only [List.mem_cons, List.not_mem_nil, or_false] at hm
        rcases hm with rfl | rfl | rfl | rfl | rfl | rfl | rfl | rfl
        · exact ⟨_, cli_int (.inl (by decide)) (by decide)⟩
        · exact ⟨_, cli_int (.inr (Int.le_refl _)) (by rw [Int.natAbs_natCast]; exact Nat.lt_of_le_of_lt (Nat.log2_le_self _) (by omega))⟩
        · exact ⟨_, cli_bool true⟩
        · exact ⟨_, cli_none⟩
        · exact ⟨_, cli_str⟩
        · exact ⟨_, cli_list hl12⟩
        · exact ⟨_, cli_int (.inr (by have e : (10 : Int) ^ (20 : Int).toNat = 100000000000000000000 := by decide
                                      omega)) (by decide)⟩
        · exact ⟨_, cli_dict hd12⟩
      have ca13 := ca.later e13
      refine ⟨_, rfl, x, d, rfl, ca13.rd _ (ExtN.refl _), ca.ok, (by show 2 ≤ sizeLine; decide), fun tt htt => ?_⟩
      have s14 := same_new (o := .tup [V.str "client", .str d.shown]) htt
      have htt14 := upd_same (H := H13) (a := tt) (o := .tup [V.str "client", .str d.shown])
      generalize (upd H13 tt (.tup [V.str "client", .str d.shown])) = H14 at s14 htt14 ⊢
      have ca14 := ca13.later (ExtN.of s14)
      have SA14 := (SA12.extN e13).kx (Kx.of s14)
      have t14 := Tabs.same t13 s14
      have e14 : ExtN H12 H14 := e13.trans (ExtN.of s14)
      clear s14 t13 e13 ca13
      refine ⟨t14, fun H15 e15 t15 s' f' => ?_⟩
      have SA15 := SA14.extN e15
      obtain ⟨dx15, hob15⟩ := SA15.ob
      refine ⟨_, rfl, p, dx15, _, rfl, hob15, nSl, _, rfl, _, rfl, a, p, r, g2, t2, o, s2, w2, gs, tl, bs, rs2, ws, n, x, .int (-1), rfl, SA15, .inl ⟨(ca14.later e15).bad _ (ExtN.refl _), fun dE H16 hdE s16 hx16 => ?_⟩⟩
      refine told s' H15 _ (.ref CC) (some dE) H16 ⟨CC, dE, "client", x, true, false, false, false, rfl, rfl, hx16, nC, kC, .inl ⟨rfl, rfl, rfl, rfl, rfl, d, fun H17 s17 => ca14.rd _ (e15.trans (ExtN.of (s16.trans s17))), ca.ok, fun TT H17 s17 hTT => ?_⟩⟩
      have s157 := s16.trans s17
      have htt17 := s157 _ _ (e15 _ _ htt14 (fun _ z => by cases z))
      have e17 := e15.trans (ExtN.of s157)
      have t17 := Tabs.same t15 s157
      refine ⟨_, rfl, _, _, .tup (SqT.of hTT) (.cons (.str _) (.cons (.str _) .nil)), .tup (SqT.of htt17) (.cons (.str _) (.cons (.str _) .nil)), pair_shaped sk_client ca.sk, pair_shaped sk_client ca.sk, _, rfl, iteFb ?_ ?_⟩
      · rw [pair_eqv]
        rfl
      have SA17 := SA14.extN e17
      have ca17 := ca14.later e17
      have e17' := e14.trans e17
      clear hx16 s16 s17 s157 e15 t15 SA15 hob15 hTT SA14 ca14 t14 e17 e14 htt14
      -- attempt_in
      refine ⟨t17, fun H18 e18 t18 s'' f'' => ?_⟩
      have SA18 := SA17.extN e18
      obtain ⟨dx18, hob18⟩ := SA18.ob
      refine ⟨_, rfl, p, dx18, _, rfl, hob18, nAi, _, rfl, a, p, r, g2, t2, o, s2, w2, gs, tl, bs, rs2, ws, n, x, .non, rfl, SA18, .inl ⟨(ca17.later e18).bad _ (ExtN.refl _), fun dF H19 hdF s19 hx19 => ?_⟩⟩
      refine told s'' H18 _ (.ref CC) (some dF) H19 ⟨CC, dF, "client", x, true, false, false, false, rfl, rfl, hx19, nC, kC, .inl ⟨rfl, rfl, rfl, rfl, rfl, d, fun H20 s20 => ca17.rd _ (e18.trans (ExtN.of (s19.trans s20))), ca.ok, fun TU H20 s20 hTU => ?_⟩⟩
      have s180 := s19.trans s20
      have htt20 := s180 _ _ (e18 _ _ htt17 (fun _ z => by cases z))
      refine ⟨_, rfl, _, _, .tup (SqT.of hTU) (.cons (.str _) (.cons (.str _) .nil)), .tup (SqT.of htt20) (.cons (.str _) (.cons (.str _) .nil)), pair_shaped sk_client ca.sk, pair_shaped sk_client ca.sk, _, rfl, iteFb ?_ ?_⟩
      · rw [pair_eqv]
        rfl
      exact ⟨⟨_, _, _, rfl⟩, e17'.trans (e18.trans (ExtN.of s180)), Tabs.same t18 s180⟩
    · rintro σ H13 ⟨⟨v10, v11, v12, rfl⟩, e13, t13⟩
      have SA13 := SA12.extN e13
      have hlo13 := e13 _ _ (sL _ _ hlo11) (fun _ z => by cases z)
      have ht13 := e13 _ _ (sL _ _ B11.ht) (fun _ z => by cases z)
      refine ⟨_, rfl, (by show 1 ≤ sizeLine; decide), fun m0 hm0 => fun q0 hq0 => ⟨(by show 6 ≤ sizeLine; decide), fun L1 hL1 => ?_⟩⟩
      have s14 := ((same_new (o := .lst [V.int 0]) hm0).trans (same_new (o := .dK []) hq0)).trans (same_new (o := .lst [V.int (-1), .bl true, .non, .str "0", .ref m0, .ref q0]) hL1)
      have hm14 := same_new (o := .lst [V.int (-1), .bl true, .non, .str "0", .ref m0, .ref q0]) hL1 _ _ (same_new (o := .dK []) hq0 _ _ (upd_same (H := H13) (a := m0) (o := .lst [V.int 0])))
      have hq14 := same_new (o := .lst [V.int (-1), .bl true, .non, .str "0", .ref m0, .ref q0]) hL1 _ _ (upd_same (H := upd H13 m0 (.lst [V.int 0])) (a := q0) (o := .dK []))
      have hL14 := upd_same (H := upd (upd H13 m0 (.lst [V.int 0])) q0 (.dK [])) (a := L1) (o := .lst [V.int (-1), .bl true, .non, .str "0", .ref m0, .ref q0])
      generalize (upd (upd (upd H13 m0 (.lst [V.int 0])) q0 (.dK [])) L1 (.lst [V.int (-1), .bl true, .non, .str "0", .ref m0, .ref q0])) = H14 at s14 hm14 hq14 hL14 ⊢
      refine ⟨_, rfl, lo, _, rfl, .inl (SqL.of (s14 _ _ hlo13)), (by show 1 ≤ sizeLine; decide), fun L2 hL2 => ?_⟩
      refine ⟨_, rfl, t0, _, _, _, rfl, rfl, SqT.of (same_new hL2 _ _ (s14 _ _ ht13)), tl.at0, rfl, .inr ⟨_, rfl, ?_⟩⟩
      obtain ⟨kk, hkk, hk⟩ : ∃ kk : Nat, (if decide (V.str tl.word = V.str "end") = true then (1 : Int) else 0) = (kk : Int) ∧ ((kk = 1 ∧ tl = .fin) ∨ kk = 0) := by
        cases tl with
        | fin => exact ⟨1, by rw [show decide (V.str (Tl.word .fin) = V.str "end") = true from wEE]; rfl, .inl ⟨rfl, rfl⟩⟩
        | times b' => exact ⟨0, by rw [show decide (V.str (Tl.word (.times b')) = V.str "end") = false from wTE]; rfl, .inr rfl⟩
        | rep m => exact ⟨0, by rw [show decide (V.str (Tl.word (.rep m)) = V.str "end") = false from wRE]; rfl, .inr rfl⟩
      rw [hkk]
      have kk1 : kk ≤ 1 := by omega
      refine ⟨L2, _, _, rfl, rfl, upd_same, by omega, by omega, ?_, fun L3 hL3 => ?_⟩
      · show 1 * ((kk : Int)).toNat ≤ sizeLine
        exact Nat.le_of_lt (small1000 (by omega))
      have hM : ((offL gs tl (manyC gs 30 tl)).map V.int).length = manyC gs 30 tl := by rw [List.length_map, offL_len]
      rw [hM] at hL3 ⊢
      have s16 := (same_new (o := .lst [V.int ((manyC gs 30 tl : Nat) : Int)]) hL2).trans (same_new (o := .lst (List.replicate ((kk : Int)).toNat [V.int ((manyC gs 30 tl : Nat) : Int)]).flatten) hL3)
      refine ⟨L1, L3, _, _, rfl, rfl, s16 _ _ hL14, upd_same, ?_, fun L4 hL4 => ?_⟩
      · rcases hk with ⟨rfl, _⟩ | rfl
        · exact Nat.le_of_lt (small1000 (show 7 ≤ 1000 by decide))
        · exact Nat.le_of_lt (small1000 (show 6 ≤ 1000 by decide))
      have s17 := (s14.trans s16).trans (same_new (o := .lst ([V.int (-1), .bl true, .non, .str "0", .ref m0, .ref q0] ++ (List.replicate ((kk : Int)).toNat [V.int ((manyC gs 30 tl : Nat) : Int)]).flatten)) hL4)
      have hm17 := same_new (o := .lst ([V.int (-1), .bl true, .non, .str "0", .ref m0, .ref q0] ++ (List.replicate ((kk : Int)).toNat [V.int ((manyC gs 30 tl : Nat) : Int)]).flatten)) hL4 _ _ (s16 _ _ hm14)
      have hq17 := same_new (o := .lst ([V.int (-1), .bl true, .non, .str "0", .ref m0, .ref q0] ++ (List.replicate ((kk : Int)).toNat [V.int ((manyC gs 30 tl : Nat) : Int)]).flatten)) hL4 _ _ (s16 _ _ hq14)
      have hL17 := upd_same (H := upd (upd H14 L2 (.lst [V.int ((manyC gs 30 tl : Nat) : Int)])) L3 (.lst (List.replicate ((kk : Int)).toNat [V.int ((manyC gs 30 tl : Nat) : Int)]).flatten)) (a := L4) (o := .lst ([V.int (-1), .bl true, .non, .str "0", .ref m0, .ref q0] ++ (List.replicate ((kk : Int)).toNat [V.int ((manyC gs 30 tl : Nat) : Int)]).flatten))
      generalize (upd (upd (upd H14 L2 (.lst [V.int ((manyC gs 30 tl : Nat) : Int)])) L3 (.lst (List.replicate ((kk : Int)).toNat [V.int ((manyC gs 30 tl : Nat) : Int)]).flatten)) L4 (.lst ([V.int (-1), .bl true, .non, .str "0", .ref m0, .ref q0] ++ (List.replicate ((kk : Int)).toNat [V.int ((manyC gs 30 tl : Nat) : Int)]).flatten))) = H17 at s17 hm17 hq17 hL17 ⊢
      have t17 := Tabs.same t13 s17
      have SA17 := SA13.kx (Kx.of s17)
      refine ⟨L4, rfl, ⟨_, SqL.of hL17⟩, for_list (a := L4) (xs := [V.int (-1), .bl true, .non, .str "0", .ref m0, .ref q0] ++ (List.replicate ((kk : Int)).toNat [V.int ((manyC gs 30 tl : Nat) : Int)]).flatten) (fun i σ H' => (∃ v10 v11 v12, σ = [some (.ref a), some (.ref u), some (.ref g), some (.ref t0), some (.ref s1), some (.ref w1), some (.int n), some (.ref p), some (.ref lo), some (.int (cl : Int)), v10, v11, v12]) ∧ ExtN H17 H' ∧ Tabs Tb H') ⟨⟨_, _, _, rfl⟩, ExtN.refl _, t17⟩ (fun i σ H' _ p => SqL.of (p.2.1 _ _ hL17 (fun _ z => by cases z))) ?_ ?_⟩
      · rintro i x σ H18 hx ⟨⟨v10, v11, v12, rfl⟩, e18, t18⟩
        obtain ⟨d, aa⟩ : ∃ d, AttAt K H17 gs tl x d := by
          have hm := List.mem_of_getElem? hx
          have hg20 := okG.1
          rw [List.mem_append] at hm
          rcases hm with hm | hm
          · simp only [List.mem_cons, List.not_mem_nil, or_false] at hm
            rcases hm with rfl | rfl | rfl | rfl | rfl | rfl
            · exact ⟨_, AttAt.int (.inl (by decide)) (by decide)⟩
            · exact ⟨_, AttAt.of_cli (cli_bool (m := 0) true) (fun _ z => by cases z)⟩
            · exact ⟨_, AttAt.of_cli (cli_none (m := 0)) (fun _ z => by cases z)⟩
            · exact ⟨_, AttAt.of_cli (cli_str (m := 0)) (fun _ z => by cases z)⟩
            · exact ⟨_, AttAt.of_cli (cli_list (m := 0) hm17) (fun _ z => by cases z)⟩
            · exact ⟨_, AttAt.of_cli (cli_dict (m := 0) hq17) (fun _ z => by cases z)⟩
          · rcases hk with ⟨hk1, hfin⟩ | hk0
            · rw [hk1] at hm
              have hm : x ∈ [V.int ((manyC gs 30 tl : Nat) : Int)] := hm
              obtain rfl := List.mem_singleton.mp hm
              have hle := many_le gs 30 tl
              refine ⟨_, AttAt.int (.inr ⟨hfin, ?_⟩) ?_⟩
              · rw [hfin]
                show (gs.length : Int) < ((min 30 (gs.length + 1) : Nat) : Int)
                omega
              · rw [Int.natAbs_natCast]
                exact Nat.lt_of_le_of_lt (Nat.log2_le_self _) (by omega)
            · rw [hk0] at hm
              have hm : x ∈ ([] : List V) := hm
              cases hm
        have aa18 := aa.later e18
        have SA18 := SA17.extN e18
        refine ⟨t18, fun H19 e19 t19 s' f' => ?_⟩
        have SA19 := SA18.extN e19
        obtain ⟨dx19, hob19⟩ := SA19.ob
        refine ⟨_, rfl, p, dx19, _, rfl, hob19, nSl, _, rfl, _, rfl, a, p, r, g2, t2, o, s2, w2, gs, tl, bs, rs2, ws, n, .int (cl : Int), x, rfl, SA19, .inr ⟨cl, rfl, hcl, .inl ⟨(aa18.later e19).bad _ (ExtN.refl _), fun dE H20 hdE s20 hx20 => ?_⟩⟩⟩
        refine told s' H19 _ (.ref CA) (some dE) H20 ⟨CA, dE, "attempt", x, false, false, true, false, rfl, rfl, hx20, nA, kA, .inr (.inr (.inl ⟨rfl, rfl, rfl, rfl, rfl, d, fun H21 s21 => aa18.rd _ (e19.trans (ExtN.of (s20.trans s21))), aa.ok, fun TT H21 s21 hTT => ?_⟩))⟩
        have e21 := e19.trans (ExtN.of (s20.trans s21))
        have t21 := Tabs.same t19 (s20.trans s21)
        refine ⟨_, rfl, x, d, rfl, aa18.rd _ e21, aa.ok, (by show 2 ≤ sizeLine; decide), fun tt htt => ?_⟩
        have s22 := same_new (o := .tup [V.str "attempt", .str d.shown]) htt
        refine ⟨_, _, .tup (SqT.of (s22 _ _ hTT)) (.cons (.str _) (.cons (.str _) .nil)), .tup (SqT.of upd_same) (.cons (.str _) (.cons (.str _) .nil)), pair_shaped sk_attempt aa.sk, pair_shaped sk_attempt aa.sk, _, rfl, iteFb ?_ ?_⟩
        · rw [pair_eqv]
          rfl
        exact ⟨⟨_, _, _, rfl⟩, e18.trans (e21.trans (ExtN.of s22)), Tabs.same t21 s22⟩
      · rintro σ H18 ⟨⟨v10, v11, v12, rfl⟩, e18, t18⟩
        have eA : ExtN H11 H18 := (ExtN.of sL).trans (e13.trans ((ExtN.of s17).trans e18))
        have SA18 := SA17.extN e18
        have hg18 := eA _ _ B11.hg (fun _ z => by cases z)
        have ht18 := eA _ _ B11.ht (fun _ z => by cases z)
        have hs18 := eA _ _ B11.hs (fun _ z => by cases z)
        clear SA17 e18 t17 hL17 hm17 hq17 s17 hL14 hq14 hm14 s14 hlo13 SA13 e13 t13 sL hl12 hd12 hL12 SA12 T12
        refine ⟨fun σ H' => (∃ v10 v11 v12, σ = [some (.ref a), some (.ref u), some (.ref g), some (.ref t0), some (.ref s1), some (.ref w1), some (.int n), some (.ref p), some (.ref lo), some (.int (cl : Int)), v10, v11, v12]) ∧ ExtN H18 H' ∧ Tabs Tb H', ?_, ?_⟩
        · refine ⟨_, rfl, t0, _, _, _, rfl, rfl, SqT.of ht18, tl.at0, rfl, _, rfl, ?_⟩
          cases tl with
          | fin => exact iteFb wET ⟨⟨_, _, _, rfl⟩, ExtN.refl _, t18⟩
          | rep m => exact iteFb wRT ⟨⟨_, _, _, rfl⟩, ExtN.refl _, t18⟩
          | times b' =>
            refine iteTb wTT ?_
            refine ⟨_, rfl, _, rfl, g, t0, gs, .times b', 1001, rfl, by decide, by decide, hg18, ht18, okG, okT, fun lo2 H19 lon2 s19 hlo2 => ?_⟩
            refine ⟨lo2, _, _, .int (off gs (.times b') 1000), rfl, rfl, SqL.of hlo2, at_map (offL_get gs (.times b') (show 1000 < 1001 by decide)), ?_⟩
            have SA19 := SA18.kx (Kx.of s19)
            obtain ⟨dx19, hob19⟩ := SA19.ob
            refine ⟨_, rfl, p, dx19, _, rfl, hob19, nSl, _, rfl, a, p, r, g2, t2, o, s2, w2, gs, .times b', bs, rs2, ws, n, .int (cl : Int), .int 1000, rfl, SA19, .inr ⟨cl, rfl, hcl, .inr ⟨1000, rfl, fun _ H20 s20 => ?_, fun b2 e hn => absurd hn (by decide), fun z => by cases z⟩⟩⟩
            have s1920 := s19.trans s20
            refine ⟨_, rfl, _, rfl, s1, _, _, _, rfl, rfl, SqL.of (s1920 _ _ hs18), at_map (getD_get hcl), _, rfl, _, _, rfl, rfl, rfl, _, rfl, iteFb (by rw [decide_eq_true rfl]; rfl) ?_⟩
            have SA20 := SA18.kx (Kx.of s1920)
            have t20 := Tabs.same t18 s1920
            have e20 := ExtN.of s1920
            refine ⟨t20, fun H21 e21 t21 s' f' => ?_⟩
            have SA21 := SA20.extN e21
            obtain ⟨dx21, hob21⟩ := SA21.ob
            refine ⟨_, rfl, p, dx21, _, rfl, hob21, nSl, _, rfl, a, p, r, g2, t2, o, s2, w2, gs, .times b', bs, rs2, ws, n, .int (cl : Int), .int 1001, rfl, SA21, .inr ⟨cl, rfl, hcl, .inr ⟨1001, rfl, fun ok => absurd (show 1001 ≤ 1000 from ok) (by decide), fun b2 _ _ dE H22 hdE s22 hx22 => ?_, fun z => by cases z⟩⟩⟩
            refine told s' H21 _ (.ref CL) (some dE) H22 ⟨CL, dE, "limit", .int 1000, false, false, false, true, rfl, rfl, hx22, nL, kL, .inr (.inr (.inr ⟨rfl, rfl, rfl, rfl, rfl, fun TT H23 s23 hTT => ?_⟩))⟩
            refine ⟨(by show 2 ≤ sizeLine; decide), fun tt htt => ?_⟩
            have s24 := same_new (o := .tup [V.str "limit", .int 1000]) htt
            refine ⟨_, _, .tup (SqT.of (s24 _ _ hTT)) (.cons (.str _) (.cons (.int _) .nil)), .tup (SqT.of upd_same) (.cons (.str _) (.cons (.int _) .nil)), limit_shaped, limit_shaped, _, rfl, iteFb ?_ ?_⟩
            · rw [limit_eqv]
              rfl
            have s224 := (s22.trans s23).trans s24
            exact ⟨⟨_, _, _, rfl⟩, e20.trans (e21.trans (ExtN.of s224)), Tabs.same t21 s224⟩
        rintro _ H19 ⟨⟨v10, v11, v12, rfl⟩, e19, t19⟩
        have SA19 := SA18.extN e19
        refine ⟨(by show 1 ≤ sizeLine; decide), fun m1 hm1 => fun q1 hq1 => ⟨(by show 5 ≤ sizeLine; decide), fun L5 hL5 => ?_⟩⟩
        have s20 := ((same_new (o := .lst [V.int 0]) hm1).trans (same_new (o := .dK []) hq1)).trans (same_new (o := .lst [V.bl true, .non, .str "0", .ref m1, .ref q1]) hL5)
        have hm20 := same_new (o := .lst [V.bl true, .non, .str "0", .ref m1, .ref q1]) hL5 _ _ (same_new (o := .dK []) hq1 _ _ (upd_same (H := H19) (a := m1) (o := .lst [V.int 0])))
        have hq20 := same_new (o := .lst [V.bl true, .non, .str "0", .ref m1, .ref q1]) hL5 _ _ (upd_same (H := upd H19 m1 (.lst [V.int 0])) (a := q1) (o := .dK []))
        have hL20 := upd_same (H := upd (upd H19 m1 (.lst [V.int 0])) q1 (.dK [])) (a := L5) (o := .lst [V.bl true, .non, .str "0", .ref m1, .ref q1])
        generalize (upd (upd (upd H19 m1 (.lst [V.int 0])) q1 (.dK [])) L5 (.lst [V.bl true, .non, .str "0", .ref m1, .ref q1])) = H20 at s20 hm20 hq20 hL20 ⊢
        have t20 := Tabs.same t19 s20
        have SA20 := SA19.kx (Kx.of s20)
        have nOu : (sflds r s2 w2 n).lookup ("outage_at" : Str) = none := sflds_no _ _ _ _ (by decide +kernel) (by decide +kernel) (by decide +kernel) (by decide +kernel)
        refine ⟨L5, rfl, ⟨_, SqL.of hL20⟩, for_list (a := L5) (xs := [V.bl true, .non, .str "0", .ref m1, .ref q1]) (fun i σ H' => (∃ v10 v11 v12, σ = [some (.ref a), some (.ref u), some (.ref g), some (.ref t0), some (.ref s1), some (.ref w1), some (.int n), some (.ref p), some (.ref lo), some (.int (cl : Int)), v10, v11, v12]) ∧ ExtN H20 H' ∧ Tabs Tb H') ⟨⟨_, _, _, rfl⟩, ExtN.refl _, t20⟩ (fun i σ H' _ p => SqL.of (p.2.1 _ _ hL20 (fun _ z => by cases z))) ?_ ?_⟩
        · rintro i x σ H21 hx ⟨⟨v10, v11, v12, rfl⟩, e21, t21⟩
          obtain ⟨d, sa⟩ : ∃ d, SltAt K H20 x d := by
            have hm := List.mem_of_getElem? hx
            simp only [List.mem_cons, List.not_mem_nil, or_false] at hm
            rcases hm with rfl | rfl | rfl | rfl | rfl
            · exact ⟨_, SltAt.of_cli (cli_bool (m := 0) true) (fun _ z => by cases z)⟩
            · exact ⟨_, SltAt.of_cli (cli_none (m := 0)) (fun _ z => by cases z)⟩
            · exact ⟨_, SltAt.of_cli (cli_str (m := 0)) (fun _ z => by cases z)⟩
            · exact ⟨_, SltAt.of_cli (cli_list (m := 0) hm20) (fun _ z => by cases z)⟩
            · exact ⟨_, SltAt.of_cli (cli_dict (m := 0) hq20) (fun _ z => by cases z)⟩
          have sa21 := sa.later e21
          have SA21 := SA20.extN e21
          refine ⟨t21, fun H22 e22 t22 s' f' => ?_⟩
          have SA22 := SA21.extN e22
          obtain ⟨dx22, hob22⟩ := SA22.ob
          refine ⟨_, rfl, p, dx22, _, rfl, hob22, nAi, _, rfl, _, rfl, a, p, r, g2, t2, o, s2, w2, gs, tl, bs, rs2, ws, n, .int (cl : Int), x, rfl, SA22, .inr ⟨cl, rfl, hcl, .inl ⟨(sa21.later e22).bad _ (ExtN.refl _), fun dE H23 hdE s23 hx23 => ?_⟩⟩⟩
          refine told s' H22 _ (.ref CSl) (some dE) H23 ⟨CSl, dE, "slot", x, false, true, false, false, rfl, rfl, hx23, nS, kS, .inr (.inl ⟨rfl, rfl, rfl, rfl, rfl, d, fun H24 s24 => sa21.rd _ (e22.trans (ExtN.of (s23.trans s24))), sa.ok, fun TT H24 s24 hTT => ?_⟩)⟩
          have e24 := e22.trans (ExtN.of (s23.trans s24))
          have t24 := Tabs.same t22 (s23.trans s24)
          refine ⟨_, rfl, x, d, rfl, sa21.rd _ e24, sa.ok, (by show 2 ≤ sizeLine; decide), fun tt htt => ?_⟩
          have s25 := same_new (o := .tup [V.str "slot", .str d.shown]) htt
          refine ⟨_, _, .tup (SqT.of (s25 _ _ hTT)) (.cons (.str _) (.cons (.str _) .nil)), .tup (SqT.of upd_same) (.cons (.str _) (.cons (.str _) .nil)), pair_shaped sk_slot sa.sk, pair_shaped sk_slot sa.sk, _, rfl, iteFb ?_ ?_⟩
          · rw [pair_eqv]
            rfl
          generalize (upd H24 tt (.tup [V.str "slot", .str d.shown])) = H25 at s25 ⊢
          have e25 := e24.trans (ExtN.of s25)
          have t25 := Tabs.same t24 s25
          have sa25 := sa21.later e25
          have SA25 := SA21.extN e25
          clear e24 t24 s25 hTT s24 hx23 s23 hob22 SA22 e22 t22
          refine ⟨t25, fun H26 e26 t26 s'' f'' => ?_⟩
          have SA26 := SA25.extN e26
          obtain ⟨dx26, hob26⟩ := SA26.ob
          refine ⟨_, rfl, p, dx26, _, rfl, hob26, nOu, _, rfl, a, p, r, g2, t2, o, s2, w2, gs, tl, bs, rs2, ws, n, x, rfl, SA26, .inl ⟨(sa25.later e26).bad _ (ExtN.refl _), fun dF H27 hdF s27 hx27 => ?_⟩⟩
          refine told s'' H26 _ (.ref CSl) (some dF) H27 ⟨CSl, dF, "slot", x, false, true, false, false, rfl, rfl, hx27, nS, kS, .inr (.inl ⟨rfl, rfl, rfl, rfl, rfl, d, fun H28 s28 => sa25.rd _ (e26.trans (ExtN.of (s27.trans s28))), sa.ok, fun TU H28 s28 hTU => ?_⟩)⟩
          have e28 := e26.trans (ExtN.of (s27.trans s28))
          have t28 := Tabs.same t26 (s27.trans s28)
          refine ⟨_, rfl, x, d, rfl, sa25.rd _ e28, sa.ok, (by show 2 ≤ sizeLine; decide), fun tu htu => ?_⟩
          have s29 := same_new (o := .tup [V.str "slot", .str d.shown]) htu
          refine ⟨_, _, .tup (SqT.of (s29 _ _ hTU)) (.cons (.str _) (.cons (.str _) .nil)), .tup (SqT.of upd_same) (.cons (.str _) (.cons (.str _) .nil)), pair_shaped sk_slot sa.sk, pair_shaped sk_slot sa.sk, _, rfl, iteFb ?_ ?_⟩
          · rw [pair_eqv]
            rfl
          exact ⟨⟨_, _, _, rfl⟩, e21.trans (e25.trans (e28.trans (ExtN.of s29))), Tabs.same t28 s29⟩
        · rintro σ H21 ⟨_, e21, t21⟩
          exact k H21 t21 fun c o hc ho hn => e21 _ _ (s20 _ _ (e19 _ _ (eA _ _ (K11 _ _ hc ho) hn) hn)) hn
end
end RS
/-! ### the law is called where nothing is being shown -/
namespace LamX
open PySem PySem.Spec PyProof.Rows L2
/-- what is tracked as the law begins: the tables, and the script unless it is one of the module's own objects -/
def laid (K : PySem.W.Frag) (T : List Addr) (a : Addr) (o : Obj) (xs : List V) : Hp := fun b =>
  if b ∈ T then some (.tbl #[]) else if b = a ∧ K.lookup a = none then some (.frz o (.lst xs)) else none
section
variable {K : PySem.W.Frag} {T : List Addr} {a b : Addr} {o : Obj} {xs : List V}
theorem laid_tab (h : b ∈ T) : laid K T a o xs b = some (.tbl #[]) := if_pos h
theorem laid_scr (h : a ∉ T) (k : K.lookup a = none) : laid K T a o xs a = some (.frz o (.lst xs)) := (if_neg h).trans (if_pos ⟨rfl, k⟩)
theorem laid_is {u : HO} (h : laid K T a o xs b = some u) : (b ∈ T ∧ u = .tbl #[]) ∨ (b = a ∧ K.lookup a = none ∧ u = .frz o (.lst xs)) := by
  unfold laid at h
  split at h
  · exact .inl ⟨‹_›, (Option.some.inj h).symm⟩
  · split at h
    · exact .inr ⟨‹_ ∧ _›.1, ‹_ ∧ _›.2, (Option.some.inj h).symm⟩
    · cases h
end
/-- what the start of a row gives -/
structure Start (P : Program) (K : PySem.W.Frag) (mg mb : Str → Option Value) (cs : List (Addr × Addr)) (a : Addr) (vs : List Value) (ns : List Int) (s : Shared) : Prop where
  kin : K.In s.heap
  ns1 : s.heap.Ns mainGlobals mg
  ns2 : s.heap.Ns builtinsNs mb
  boot : ∀ x : Str, x ≠ "__name__" → mb x = bootBuiltins x
  free : s.heap.NoLimit
  gens : s.gens = #[]
  tab : ∀ p ∈ cs, s.heap.get? p.2 = some { cls := .none, data := .fields #[] }
  own : ∀ p ∈ cs, K.lookup p.2 = none
  code : ∀ p ∈ cs, PySem.W.CodeHd s.heap p.1 p.2
  bm : ∃ (bm : Addr) (ob : Obj), mg "__builtins__" = some (.ref bm) ∧ bm ≠ builtinsNs ∧ s.heap.get? bm = some ob ∧ ob.cls = .type "module" ∧ ob.dict = some builtinsNs ∧ ob.data = .plain
  scr : s.heap.get? a = some { cls := .type "list", data := .seq vs.toArray }
  who : IntsAre vs ns
  len : ns.length ≤ sizeLine
section
variable {P : Program} {w : World} {K : PySem.W.Frag} {mg mb : Str → Option Value} {cs : List (Addr × Addr)} {a : Addr} {vs : List Value} {ns : List Int} {s : Shared}
theorem Start.tabAt (S : Start P K mg mb cs a vs ns s) {b : Addr} (h : b ∈ cs.map (·.2)) : s.heap.get? b = some { cls := .none, data := .fields #[] } := by
  obtain ⟨p, hp, rfl⟩ := List.mem_map.mp h
  exact S.tab p hp
theorem Start.noT (S : Start P K mg mb cs a vs ns s) : a ∉ cs.map (·.2) := fun h => by
  have e := S.scr.symm.trans (S.tabAt h)
  cases e
/-- nothing else is tracked -/
theorem Start.open' (S : Start P K mg mb cs a vs ns s) {o : Obj} {xs : List V} {b : Addr} {ob : Obj} (e : s.heap.get? b = some ob) (h1 : ∀ zs n, ob.data ≠ .seq zs n) (h2 : ob.data ≠ .fields #[]) : laid K (cs.map (·.2)) a o xs b = none := by
  cases q : laid K (cs.map (·.2)) a o xs b with
  | none => rfl
  | some u =>
    rcases laid_is q with ⟨hb, _⟩ | ⟨rfl, _, _⟩
    · rw [S.tabAt hb] at e
      cases e
      exact (h2 rfl).elim
    · rw [S.scr] at e
      cases e
      exact (h1 _ _ rfl).elim
theorem Start.seen (S : Start P K mg mb cs a vs ns s) {o : Obj} {xs : List V} {b : Addr} {m : Str → Option Value} (h : s.heap.Ns b m) : (hidT s.heap (laid K (cs.map (·.2)) a o xs)).Ns b m := by
  obtain ⟨ob, es, ep, e, d, r⟩ := h
  exact ⟨ob, es, ep, hidT_get e (S.open' e (fun zs n z => by rw [d] at z; cases z) fun z => by rw [d] at z; cases z), d, r⟩
theorem Start.kinT (S : Start P K mg mb cs a vs ns s) {o : Obj} {xs : List V} : K.In (hidT s.heap (laid K (cs.map (·.2)) a o xs)) := fun b ob e => by
  refine hidT_get (S.kin b ob e) ?_
  cases q : laid K (cs.map (·.2)) a o xs b with
  | none => rfl
  | some u =>
    rcases laid_is q with ⟨hb, _⟩ | ⟨rfl, k, _⟩
    · obtain ⟨p, hp, rfl⟩ := List.mem_map.mp hb
      have := S.own p hp
      rw [this] at e
      cases e
    · rw [k] at e
      cases e
theorem Start.tabs (S : Start P K mg mb cs a vs ns s) {o : Obj} {xs : List V} : ∀ p ∈ cs, TabB (hidT s.heap (laid K (cs.map (·.2)) a o xs)) mg p.1 p.2 := fun p hp => by
  have hT := S.tab p hp
  obtain ⟨og, eg, ng, gg, dg, _⟩ := S.ns1
  refine ⟨?_, ?_, fun z => ?_⟩
  · obtain ⟨ob, us, file, tf, flags, tg, inF, text, tt, e1, r1, r2, r3, rest⟩ := S.code p hp
    refine ⟨ob, us, file, tf, flags, tg, inF, text, tt, hidT_get e1 (S.open' e1 (fun zs n z => by rw [r2] at z; cases z) fun z => ?_), r1, r2, r3, rest⟩
    rw [r2] at z
    cases z
    simp at r3
  · obtain ⟨bm, ob, b1, b2, b3, b4, b5, b6⟩ := S.bm
    refine ⟨bm, ob, b1, b2, fun z => ?_, fun z => ?_, hidT_get b3 (S.open' b3 (fun zs n z => by rw [b6] at z; cases z) fun z => by rw [b6] at z; cases z), b4, b5, b6⟩
    · subst z
      rw [gg] at b3
      cases b3
      rw [dg] at b6
      cases b6
    · subst z
      rw [hT] at b3
      cases b3
      cases b6
  · rw [z, hT] at gg
    cases gg
    cases dg
theorem Start.hok (S : Start P K mg mb cs a vs ns s) : HOk P w (laid K (cs.map (·.2)) a { cls := .type "list", data := .seq vs.toArray } (ns.map V.int)) s.heap := fun b u e => by
  rcases laid_is e with ⟨hb, rfl⟩ | ⟨rfl, _, rfl⟩
  · exact S.tabAt hb
  · exact ⟨S.scr, by rw [List.length_map]; exact S.len, vs, _, vals_ints S.who, S.scr⟩
theorem Start.script (S : Start P K mg mb cs a vs ns s) : SqL K (laid K (cs.map (·.2)) a { cls := .type "list", data := .seq vs.toArray } (ns.map V.int)) a (ns.map V.int) := by
  cases k : K.lookup a with
  | none => exact .inl (.inr ⟨_, laid_scr S.noT k⟩)
  | some o =>
    have e := (S.kin a o k).symm.trans S.scr
    cases e
    exact .inr ⟨_, vs.toArray, _, k, rfl, rfl, rfl, by rw [List.size_toArray, S.who.length]; exact S.len, by simpa using vals_ints S.who⟩
theorem law_calm {k : Nat} {fa : Addr} {fd : FuncData} {x : Str} {sp : Sp} (S : Start P K mg mb cs a vs ns s) (hr : Room k callerA)
    (F : ∀ base : Heap, K.In base → base.Ns mainGlobals mg → (∀ p ∈ cs, TabB base mg p.1 p.2) → FnG P w K mg base k fa fd [x] sp) (hbind : ∀ (s : Shared) (u : Value), BindsTo s fd ⟨[u], []⟩ [(x, u)])
    (hsp : ∀ H : Hp, (∀ p ∈ cs, H p.2 = some (.tbl #[])) → SqL K H a (ns.map V.int) → sp [.ref a] H (fun v _ => v = .bl true) fun _ _ _ => False) :
    codeAny (model P w) callerA (.call (.ref fa) ⟨[.ref a], []⟩) (fun r s' => r = .ok (.ret (.bool true)) ∧ OldK s.heap s'.heap ∧ s'.os = s.os ∧ AllBare s'.gens) s := by
  have inT : ∀ p ∈ cs, p.2 ∈ cs.map (·.2) := fun p hp => List.mem_map.mpr ⟨p, hp, rfl⟩
  have e0 : Env0 P w K mg (hidT s.heap (laid K (cs.map (·.2)) a { cls := .type "list", data := .seq vs.toArray } (ns.map V.int))) callerA [] s (laid K (cs.map (·.2)) a { cls := .type "list", data := .seq vs.toArray } (ns.map V.int)) :=
    ⟨rfl, ⟨S.kinT, S.seen S.ns1, ⟨mb, S.seen S.ns2, S.boot⟩, let ⟨mc, h1, h2⟩ := S.free; ⟨mc, S.seen h1, h2⟩⟩, fun b o e => of_hidT e, Nat.le_of_eq (hidT_size _ _), trivial, (fun b hb => nomatch hb), S.hok, .of_eq S.gens⟩
  refine codeAny_mono ((F _ S.kinT (S.seen S.ns1) S.tabs).go (us := [.ref a]) (vs := [.ref a]) rfl hr e0 (hbind s (.ref a)) (.cons rfl .nil) (hsp _ (fun p hp => laid_tab (inT p hp)) S.script)) fun out s' told => ?_
  match out, told with
  | .error _, told => exact told.elim
  | .ok .next, told => exact told.elim
  | .ok .brk, told => exact told.elim
  | .ok .cont, told => exact told.elim
  | .ok (.ret u), ⟨v, H', os, bare, un, hok', ru, q⟩ =>
    have q : v = .bl true := q
    subst q
    obtain rfl : u = Value.bool true := ru
    have kept : ∀ b o, b ∉ cs.map (·.2) → s.heap.get? b = some o → s'.heap.get? b = some o := fun b o nb e => by
      cases q : laid K (cs.map (·.2)) a { cls := .type "list", data := .seq vs.toArray } (ns.map V.int) b with
      | none => exact un.keep b o e q (fun z => nomatch z) (fun z => nomatch z)
      | some u =>
        rcases laid_is q with ⟨hb, _⟩ | ⟨rfl, _, rfl⟩
        · exact absurd hb nb
        · have z := (hok' b _ (un.frzs b _ _ q)).1
          rw [S.scr] at e
          cases e
          exact z
    have more : ∀ p ∈ cs, ∃ m : Array Value, s'.heap.get? p.2 = some { cls := .none, data := .fields m } := fun p hp => by
      obtain ⟨m, z⟩ := un.tbls p.2 #[] (laid_tab (inT p hp))
      exact ⟨_, hok' p.2 _ z⟩
    refine ⟨rfl, ⟨fun b o e => ?_, fun b o e => ?_⟩, os, bare⟩
    · by_cases hb : b ∈ cs.map (·.2)
      · obtain ⟨p, hp, rfl⟩ := List.mem_map.mp hb
        obtain ⟨m, hm⟩ := more p hp
        rw [S.tab p hp] at e
        cases e
        exact .inr (.inl ⟨((S.code p hp).tab (S.tab p hp)).isCodeTable, rfl, #[], m, rfl, by rw [Array.empty_append]; exact hm⟩)
      · exact .inl (kept b o hb e)
    · by_cases hb : b ∈ cs.map (·.2)
      · obtain ⟨p, hp, rfl⟩ := List.mem_map.mp hb
        obtain ⟨m, hm⟩ := more p hp
        exact ⟨_, hm⟩
      · exact ⟨o, kept b o hb e⟩
end
/-- what must be known of the law at the head's heap h -/
def LawCalm (l : PySem.W.OpenLaw) (w : World) (K : PySem.W.Frag) (k n : Nat) (x : Str) (mg : Str → Option Value) (fa : Addr) (h : Heap) : Prop :=
  ∃ (fd : FuncData) (cs : List (Addr × Addr)) (sp : Sp), (∀ p ∈ cs, h.get? p.2 = some { cls := .none, data := .fields #[] } ∧ K.lookup p.2 = none ∧ PySem.W.CodeHd h p.1 p.2) ∧ (∀ (s : Shared) (u : Value), BindsTo s fd ⟨[u], []⟩ [(x, u)]) ∧
    (∀ (H : Hp) (a : Addr) (ns : List Int), ns.length ≤ n → (∀ p ∈ cs, H p.2 = some (.tbl #[])) → SqL K H a (ns.map V.int) → sp [.ref a] H (fun v _ => v = .bl true) fun _ _ _ => False) ∧
    ∀ base : Heap, K.In base → base.Ns mainGlobals mg → (∀ p ∈ cs, TabB base mg p.1 p.2) → FnG l.prog w K mg base k fa fd [x] sp
theorem walk_calm {l : PySem.W.OpenLaw} {n k : Nat} {q : Program} {loose : List Str} {XP : (Str → Option Value) → Heap → Prop} {YP : World → Heap → Prop} {d : DefRec} {K : Params → PySem.W.Frag} {x : Str}
    (hn : l.most = some n) (hn2 : n ≤ sizeLine) (hdf : d.params.defaults = []) (hr : Room k callerA) (hY : ∀ (w : World) (h : Heap), YP w h → (K w.params).In h)
    (F : ∀ (w : World) (mg : Str → Option Value) (fa : Addr) (h : Heap), YP w h → (K w.params).In h → h.Ns mainGlobals mg → mg d.name = some (.ref fa) → XP mg h → LawCalm l w (K w.params) k n x mg fa h) :
    PySem.W.WalkO q loose XP YP l.row.toRowW d [] (fun f vs => PySem.call f vs) := by
  refine Att.attach_callB hn hdf fun w s0 s1 mg mb fa o pm cd doc a vs ns G Y ho hd hcd hmg hobj hints hlen hbits hg => ?_
  obtain ⟨fd, cs, sp, hT, hb, hsp, hF⟩ := F w mg fa _ Y (hY w _ Y) G.T.g hmg G.X
  exact law_calm (mb := mb) ⟨hY w _ Y, G.T.g, G.T.b, G.T.builtins, G.T.nolimit, hg, fun p hp => (hT p hp).1, fun p hp => (hT p hp).2.1, fun p hp => (hT p hp).2.2, G.T.bmain, hobj, hints, Nat.le_trans hlen hn2⟩ hr hF hb fun H hH hS => hsp H a ns hlen hH hS
end LamX
namespace RS
open PySem L2 LamX
theorem scLaw : FnScope ["_law_script", "_law_cell"] ["_law_script"] (defScope s_law) := ⟨rfl, rfl, rfl, by decide +kernel, rfl, by decide +kernel, by decide +kernel⟩
section
variable {P : Program} {w : World} {K : PySem.W.Frag} {mg : Str → Option Value} {base : Heap}
def spLawT (K : PySem.W.Frag) (Tb : List (Addr × Str)) : Sp := fun vs H Q _ => ∃ (a : Addr) (ns : List Int), vs = [.ref a] ∧ SqL K H a (ns.map V.int) ∧ Tabs Tb H ∧ ∀ H', Q (.bl true) H'
theorem ok_law {f fR fW : Addr} {fd fdR fdW : FuncData} {Tb : List (Addr × Str)} (F : Fun K "law" "law" s_law f fd)
    (GR : FnG P w K mg base 10 fR fdR ["_law_well_here"] (spRight Tb)) (bR : Binds K fdR ["_law_well_here"] []) (mR : mg "_law_right" = some (.ref fR)) (kR : PySem.W.keepIn K (.ref fR) = true)
    (GW : FnOk P w K mg base CX0 1 fW fdW ["_law_cell"] spWell) (bW : Binds K fdW ["_law_cell"] []) (mW : mg "_law_well" = some (.ref fW)) (kW : PySem.W.keepIn K (.ref fW) = true) :
    FnG P w K mg base 11 f fd ["_law_script"] (spLawT K Tb) := by
  refine F.calm scLaw (fun {vs H Q E} h => ?_) (fun cdv A outer s H vs Q E calm hr h => ?_)
  · obtain ⟨a, ns, rfl, _⟩ := h
    rfl
  · obtain ⟨sc, ns, rfl, hs, hT, k⟩ := h
    have hr1 := hr.mono (show 1 ≤ 10 by decide)
    refine ⟨_, (pss_cons (ps_for PassesOwn.never rfl (pi_list (pe_op op_cat (pe_slice sl_list (pv 0) po_none (po_some pe_int)) (pe_lst (pa_cons pe_int pa_nil)))) (pg_name (i := 1) scLaw.nd rfl (Or.inl rfl))
      (pss_one (ps_if (pt_not (pt_val (pe_calm calm GR hr rfl mR kR bR .nil (pa_cons (pe_call GW hr1 rfl mW kW bW .nil pass0 (pa_cons (pv 1) pa_nil)) pa_nil)))) (pss_one (ps_ret pe_bl)) pss_nil))) (pss_one (ps_ret pe_bl))), ?_⟩
    refine ⟨_, rfl, _, rfl, sc, _, rfl, hs, fun l1 hl1 => ?_⟩
    refine ⟨(by show 1 ≤ sizeLine; decide), fun l2 hl2 => ?_⟩
    have hl1' := same_new (o := .lst [V.int 0]) hl2 _ _ (upd_same (H := H) (a := l1) (o := .lst (cutV (ns.map V.int) none (some 4))))
    have ecs : cutV (ns.map V.int) none (some 4) ++ [V.int 0] = (ns.take 4 ++ [0]).map V.int := by
      rw [show (some (4 : Int)) = some ((4 : Nat) : Int) from rfl, cut_to, List.map_append, List.map_take]
      rfl
    refine ⟨l1, l2, _, _, rfl, rfl, hl1', upd_same, ?_, fun L hL => ?_⟩
    · rw [← List.length_append, ecs, List.length_map, List.length_append, List.length_take]
      exact Nat.le_of_lt (small1000 (by show min 4 ns.length + 1 ≤ 1000; omega))
    rw [ecs]
    have S3 := ((same_new (o := .lst (cutV (ns.map V.int) none (some 4))) hl1).trans (same_new (o := .lst [V.int 0]) hl2)).trans (same_new (o := .lst ((ns.take 4 ++ [0]).map V.int)) hL)
    have T3 := Tabs.same hT S3
    have hL3 := upd_same (H := upd (upd H l1 (.lst (cutV (ns.map V.int) none (some 4)))) l2 (.lst [V.int 0])) (a := L) (o := .lst ((ns.take 4 ++ [0]).map V.int))
    generalize (upd (upd (upd H l1 (.lst (cutV (ns.map V.int) none (some 4)))) l2 (.lst [V.int 0])) L (.lst ((ns.take 4 ++ [0]).map V.int))) = H3 at T3 hL3 ⊢
    generalize ns.take 4 ++ [0] = cs at hL3 ⊢
    clear ecs hl1' hL S3
    refine ⟨L, rfl, ⟨_, SqL.of hL3⟩, for_list (a := L) (xs := cs.map V.int) (fun i σ H' => (∃ v1, σ = [some (.ref sc), v1]) ∧ H' L = some (.lst (cs.map V.int)) ∧ Tabs Tb H') ⟨⟨_, rfl⟩, hL3, T3⟩ (fun i σ H' _ p => SqL.of p.2.1) ?_ (fun σ H' p => k H')⟩
    rintro i x σ H0 hx ⟨⟨v1, rfl⟩, hL0, T0⟩
    obtain ⟨c, _, rfl⟩ := map_of hx
    refine ⟨_, rfl, c, rfl, fun a H1 ha S1 R1 => ?_⟩
    refine ⟨a, 0, rfl, R1, by decide, Tabs.same T0 S1, fun H2 T2 hk => ⟨true, rfl, iteF ⟨⟨_, rfl⟩, hk L _ (ne_of_none hL0 ha) (S1 _ _ hL0) (fun _ z => by cases z), T2⟩⟩⟩
end
end RS
namespace L2
open PySem PySem.Spec PyProof.Rows
theorem exm_any2 {K : PySem.W.Frag} {c x y : Value} {b1 b2 : Bool} (h1 : PySem.W.exmOne K c x = some b1) (h2 : PySem.W.exmOne K c y = some b2) : PySem.W.exmAny K c [x, y] = some (b1 || (b2 || false)) := by
  have e : PySem.W.exmAny K c [y] = some (b2 || false) := by
    show (match PySem.W.exmOne K c y, PySem.W.exmAny K c [] with | some b, some d => some (b || d) | _, _ => none) = _
    rw [h2] <;> rfl
  show (match PySem.W.exmOne K c x, PySem.W.exmAny K c [y] with | some b, some d => some (b || d) | _, _ => none) = _
  rw [h1, e] <;> rfl
end L2
namespace RS
open PySem L2 LamX
theorem kit_any4 {K : PySem.W.Frag} {t a b c d : Value} (h1 : PySem.W.kitOne K t a = some false) (h2 : PySem.W.kitOne K t b = some false) (h3 : PySem.W.kitOne K t c = some false) (h4 : PySem.W.kitOne K t d = some false) : PySem.W.kitAny K t [a, b, c, d] = some false := by
  simp only [PySem.W.kitAny, h1, h2, h3, h4]
/-- a table that is empty -/
theorem tabs_one {P0 : Addr} {q : Str} {H : Hp} (h : H P0 = some (.tbl #[])) : Tabs [(P0, q)] H := fun p hp => by
  obtain rfl := List.mem_singleton.mp hp
  exact ⟨#[], h, trivial, fun pos cv z => by cases z⟩
end RS
namespace RS
open PySem L2
open PySem.W (fnOf)
theorem et_InvalidAttempt {K : PySem.W.Frag} {h : Heap} {mg : Str → Option Value} {C f N R : Addr} (X : K.In h) (G : h.Ns mainGlobals mg)
    {nm q : Str} {bs : List Value} {sn : List Str} {sub : List Value} {ab : Bool} {col : Option Bool} {dd : Option Addr} {m0 m1 m2 m3 m5 : Option Value} {od an : Option Addr} {sl : Array (Option Value)} {oc dc pm cd ct : Value}
    (aC : PySem.W.nsIn K mainGlobals "InvalidAttempt" = some (some (.ref C)))
    (xL : K.lookup C = some (excClassObj nm q C N bs [.ref R, .type "ArithmeticError", .type "Exception", .type "BaseException", .type "object"] true sn sub ab col dd m0 m1 m2 m3 m5 "ArithmeticError.__new__"))
    (sa : PySem.W.findIn K (.ref C) "__setattr__" = some (some (.builtin "object.__setattr__")))
    (ga : PySem.W.findIn K (.ref C) "__getattribute__" = some (some (.builtin "BaseException.__getattribute__")))
    (gg : PySem.W.findIn K (.ref C) "__getattr__" = some none)
    (n0 : PySem.W.findIn K (.ref C) "attempt" = some none)
    (ov : PySem.W.excOver K C [.type "ArithmeticError", .type "Exception", .type "BaseException", .type "object"] = true)
    (k0 : PySem.W.takerIn K C "attempt" = some none)
    (a1 : PySem.W.findIn K (.ref C) "__init__" = some (some (.ref f)))
    (t1 : PySem.W.typeIn K (.ref f) = some (.type "function"))
    (l1 : K.lookup f = some ⟨oc, od, .func (PySem.W.fnOf "__init__" "InvalidAttempt.__init__" (defArgs s_InvalidAttempt_ddinitdd) (defBody s_InvalidAttempt_ddinitdd) (defScope s_InvalidAttempt_ddinitdd) .none .none dc pm an cd ct), sl⟩) (c1 : PySem.W.codeIn K cd "InvalidAttempt.__init__" = true)
    (kC : PySem.W.keepIn K (.ref C) = true) (eC : PySem.W.subIn K (.ref C) (.type "BaseException") = some true) (tC : PySem.W.typeIn K (.ref C) = some (.type "type")) (hC : PySem.W.hasDictIn K C = true)
    (ca : PySem.W.findIn K (.ref C) "__class__" = some (some (.builtin "object.__class__"))) (cn : PySem.W.specialIn K (.builtin "object.__class__") "__get__" = some (some (.builtin "getset_descriptor.__get__"))) (ct2 : PySem.W.takesIn K (.builtin "object.__class__") = some true) (cm : PySem.W.mroIn K C (.type "object") = some true) :
    ErX.ErTxt K mg "InvalidAttempt" "InvalidAttempt.__init__" "attempt" C f ∧ ErCls K C := by
  refine ⟨⟨PySem.W.mg_of X G aC, ⟨_, _, _, _, _, _, _, _, _, _, _, _, _, _, _, xL, fun X => ?_⟩, sa, ga, gg, n0, ov, k0, a1, t1, kC, eC, tC, hC, ⟨oc, od, dc, pm, an, cd, ct, sl, _, _, _, _, _, _, l1, c1⟩, (by intros; (first | rfl | decide | with_unfolding_all rfl | kernel_rfl)), (by intros; (first | rfl | decide | with_unfolding_all rfl | kernel_rfl)), (by intros; (first | rfl | decide | with_unfolding_all rfl | kernel_rfl)), (by intros; (first | rfl | decide | with_unfolding_all rfl | kernel_rfl)), (by intros; (first | rfl | decide | with_unfolding_all rfl | kernel_rfl)), (by intros; (first | rfl | decide | with_unfolding_all rfl | kernel_rfl)), (by intros; (first | rfl | decide | with_unfolding_all rfl | kernel_rfl))⟩, ⟨?_, ga, gg, eC, hC, ca, cn, ct2, cm⟩⟩
  · rw [List.contains_cons]
    rfl
  · unfold PySem.W.clsIn
    rw [xL] <;> rfl
theorem et_InvalidSlot {K : PySem.W.Frag} {h : Heap} {mg : Str → Option Value} {C f N R : Addr} (X : K.In h) (G : h.Ns mainGlobals mg)
    {nm q : Str} {bs : List Value} {sn : List Str} {sub : List Value} {ab : Bool} {col : Option Bool} {dd : Option Addr} {m0 m1 m2 m3 m5 : Option Value} {od an : Option Addr} {sl : Array (Option Value)} {oc dc pm cd ct : Value}
    (aC : PySem.W.nsIn K mainGlobals "InvalidSlot" = some (some (.ref C)))
    (xL : K.lookup C = some (excClassObj nm q C N bs [.ref R, .type "ArithmeticError", .type "Exception", .type "BaseException", .type "object"] true sn sub ab col dd m0 m1 m2 m3 m5 "ArithmeticError.__new__"))
    (sa : PySem.W.findIn K (.ref C) "__setattr__" = some (some (.builtin "object.__setattr__")))
    (ga : PySem.W.findIn K (.ref C) "__getattribute__" = some (some (.builtin "BaseException.__getattribute__")))
    (gg : PySem.W.findIn K (.ref C) "__getattr__" = some none)
    (n0 : PySem.W.findIn K (.ref C) "slot" = some none)
    (ov : PySem.W.excOver K C [.type "ArithmeticError", .type "Exception", .type "BaseException", .type "object"] = true)
    (k0 : PySem.W.takerIn K C "slot" = some none)
    (a1 : PySem.W.findIn K (.ref C) "__init__" = some (some (.ref f)))
    (t1 : PySem.W.typeIn K (.ref f) = some (.type "function"))
    (l1 : K.lookup f = some ⟨oc, od, .func (PySem.W.fnOf "__init__" "InvalidSlot.__init__" (defArgs s_InvalidSlot_ddinitdd) (defBody s_InvalidSlot_ddinitdd) (defScope s_InvalidSlot_ddinitdd) .none .none dc pm an cd ct), sl⟩) (c1 : PySem.W.codeIn K cd "InvalidSlot.__init__" = true)
    (kC : PySem.W.keepIn K (.ref C) = true) (eC : PySem.W.subIn K (.ref C) (.type "BaseException") = some true) (tC : PySem.W.typeIn K (.ref C) = some (.type "type")) (hC : PySem.W.hasDictIn K C = true)
    (ca : PySem.W.findIn K (.ref C) "__class__" = some (some (.builtin "object.__class__"))) (cn : PySem.W.specialIn K (.builtin "object.__class__") "__get__" = some (some (.builtin "getset_descriptor.__get__"))) (ct2 : PySem.W.takesIn K (.builtin "object.__class__") = some true) (cm : PySem.W.mroIn K C (.type "object") = some true) :
    ErX.ErTxt K mg "InvalidSlot" "InvalidSlot.__init__" "slot" C f ∧ ErCls K C := by
  refine ⟨⟨PySem.W.mg_of X G aC, ⟨_, _, _, _, _, _, _, _, _, _, _, _, _, _, _, xL, fun X => ?_⟩, sa, ga, gg, n0, ov, k0, a1, t1, kC, eC, tC, hC, ⟨oc, od, dc, pm, an, cd, ct, sl, _, _, _, _, _, _, l1, c1⟩, (by intros; (first | rfl | decide | with_unfolding_all rfl | kernel_rfl)), (by intros; (first | rfl | decide | with_unfolding_all rfl | kernel_rfl)), (by intros; (first | rfl | decide | with_unfolding_all rfl | kernel_rfl)), (by intros; (first | rfl | decide | with_unfolding_all rfl | kernel_rfl)), (by intros; (first | rfl | decide | with_unfolding_all rfl | kernel_rfl)), (by intros; (first | rfl | decide | with_unfolding_all rfl | kernel_rfl)), (by intros; (first | rfl | decide | with_unfolding_all rfl | kernel_rfl))⟩, ⟨?_, ga, gg, eC, hC, ca, cn, ct2, cm⟩⟩
  · rw [List.contains_cons]
    rfl
  · unfold PySem.W.clsIn
    rw [xL] <;> rfl
theorem et_InvalidClient {K : PySem.W.Frag} {h : Heap} {mg : Str → Option Value} {C f N R : Addr} (X : K.In h) (G : h.Ns mainGlobals mg)
    {nm q : Str} {bs : List Value} {sn : List Str} {sub : List Value} {ab : Bool} {col : Option Bool} {dd : Option Addr} {m0 m1 m2 m3 m5 : Option Value} {od an : Option Addr} {sl : Array (Option Value)} {oc dc pm cd ct : Value}
    (aC : PySem.W.nsIn K mainGlobals "InvalidClient" = some (some (.ref C)))
    (xL : K.lookup C = some (excClassObj nm q C N bs [.ref R, .type "ArithmeticError", .type "Exception", .type "BaseException", .type "object"] true sn sub ab col dd m0 m1 m2 m3 m5 "ArithmeticError.__new__"))
    (sa : PySem.W.findIn K (.ref C) "__setattr__" = some (some (.builtin "object.__setattr__")))
    (ga : PySem.W.findIn K (.ref C) "__getattribute__" = some (some (.builtin "BaseException.__getattribute__")))
    (gg : PySem.W.findIn K (.ref C) "__getattr__" = some none)
    (n0 : PySem.W.findIn K (.ref C) "client" = some none)
    (ov : PySem.W.excOver K C [.type "ArithmeticError", .type "Exception", .type "BaseException", .type "object"] = true)
    (k0 : PySem.W.takerIn K C "client" = some none)
    (a1 : PySem.W.findIn K (.ref C) "__init__" = some (some (.ref f)))
    (t1 : PySem.W.typeIn K (.ref f) = some (.type "function"))
    (l1 : K.lookup f = some ⟨oc, od, .func (PySem.W.fnOf "__init__" "InvalidClient.__init__" (defArgs s_InvalidClient_ddinitdd) (defBody s_InvalidClient_ddinitdd) (defScope s_InvalidClient_ddinitdd) .none .none dc pm an cd ct), sl⟩) (c1 : PySem.W.codeIn K cd "InvalidClient.__init__" = true)
    (kC : PySem.W.keepIn K (.ref C) = true) (eC : PySem.W.subIn K (.ref C) (.type "BaseException") = some true) (tC : PySem.W.typeIn K (.ref C) = some (.type "type")) (hC : PySem.W.hasDictIn K C = true)
    (ca : PySem.W.findIn K (.ref C) "__class__" = some (some (.builtin "object.__class__"))) (cn : PySem.W.specialIn K (.builtin "object.__class__") "__get__" = some (some (.builtin "getset_descriptor.__get__"))) (ct2 : PySem.W.takesIn K (.builtin "object.__class__") = some true) (cm : PySem.W.mroIn K C (.type "object") = some true) :
    ErX.ErTxt K mg "InvalidClient" "InvalidClient.__init__" "client" C f ∧ ErCls K C := by
  refine ⟨⟨PySem.W.mg_of X G aC, ⟨_, _, _, _, _, _, _, _, _, _, _, _, _, _, _, xL, fun X => ?_⟩, sa, ga, gg, n0, ov, k0, a1, t1, kC, eC, tC, hC, ⟨oc, od, dc, pm, an, cd, ct, sl, _, _, _, _, _, _, l1, c1⟩, (by intros; (first | rfl | decide | with_unfolding_all rfl | kernel_rfl)), (by intros; (first | rfl | decide | with_unfolding_all rfl | kernel_rfl)), (by intros; (first | rfl | decide | with_unfolding_all rfl | kernel_rfl)), (by intros; (first | rfl | decide | with_unfolding_all rfl | kernel_rfl)), (by intros; (first | rfl | decide | with_unfolding_all rfl | kernel_rfl)), (by intros; (first | rfl | decide | with_unfolding_all rfl | kernel_rfl)), (by intros; (first | rfl | decide | with_unfolding_all rfl | kernel_rfl))⟩, ⟨?_, ga, gg, eC, hC, ca, cn, ct2, cm⟩⟩
  · rw [List.contains_cons]
    rfl
  · unfold PySem.W.clsIn
    rw [xL] <;> rfl
theorem et_LimitExceeded {K : PySem.W.Frag} {h : Heap} {mg : Str → Option Value} {C f N R : Addr} (X : K.In h) (G : h.Ns mainGlobals mg)
    {nm q : Str} {bs : List Value} {sn : List Str} {sub : List Value} {ab : Bool} {col : Option Bool} {dd : Option Addr} {m0 m1 m2 m3 m5 : Option Value} {od an : Option Addr} {sl : Array (Option Value)} {oc dc pm cd ct : Value}
    (aC : PySem.W.nsIn K mainGlobals "LimitExceeded" = some (some (.ref C)))
    (xL : K.lookup C = some (excClassObj nm q C N bs [.ref R, .type "ArithmeticError", .type "Exception", .type "BaseException", .type "object"] true sn sub ab col dd m0 m1 m2 m3 m5 "ArithmeticError.__new__"))
    (sa : PySem.W.findIn K (.ref C) "__setattr__" = some (some (.builtin "object.__setattr__")))
    (ga : PySem.W.findIn K (.ref C) "__getattribute__" = some (some (.builtin "BaseException.__getattribute__")))
    (gg : PySem.W.findIn K (.ref C) "__getattr__" = some none)
    (n0 : PySem.W.findIn K (.ref C) "limit" = some none)
    (ov : PySem.W.excOver K C [.type "ArithmeticError", .type "Exception", .type "BaseException", .type "object"] = true)
    (k0 : PySem.W.takerIn K C "limit" = some none)
    (a1 : PySem.W.findIn K (.ref C) "__init__" = some (some (.ref f)))
    (t1 : PySem.W.typeIn K (.ref f) = some (.type "function"))
    (l1 : K.lookup f = some ⟨oc, od, .func (PySem.W.fnOf "__init__" "LimitExceeded.__init__" (defArgs s_LimitExceeded_ddinitdd) (defBody s_LimitExceeded_ddinitdd) (defScope s_LimitExceeded_ddinitdd) .none .none dc pm an cd ct), sl⟩) (c1 : PySem.W.codeIn K cd "LimitExceeded.__init__" = true)
    (kC : PySem.W.keepIn K (.ref C) = true) (eC : PySem.W.subIn K (.ref C) (.type "BaseException") = some true) (tC : PySem.W.typeIn K (.ref C) = some (.type "type")) (hC : PySem.W.hasDictIn K C = true)
    (ca : PySem.W.findIn K (.ref C) "__class__" = some (some (.builtin "object.__class__"))) (cn : PySem.W.specialIn K (.builtin "object.__class__") "__get__" = some (some (.builtin "getset_descriptor.__get__"))) (ct2 : PySem.W.takesIn K (.builtin "object.__class__") = some true) (cm : PySem.W.mroIn K C (.type "object") = some true) :
    ErX.ErTxt K mg "LimitExceeded" "LimitExceeded.__init__" "limit" C f ∧ ErCls K C := by
  refine ⟨⟨PySem.W.mg_of X G aC, ⟨_, _, _, _, _, _, _, _, _, _, _, _, _, _, _, xL, fun X => ?_⟩, sa, ga, gg, n0, ov, k0, a1, t1, kC, eC, tC, hC, ⟨oc, od, dc, pm, an, cd, ct, sl, _, _, _, _, _, _, l1, c1⟩, (by intros; (first | rfl | decide | with_unfolding_all rfl | kernel_rfl)), (by intros; (first | rfl | decide | with_unfolding_all rfl | kernel_rfl)), (by intros; (first | rfl | decide | with_unfolding_all rfl | kernel_rfl)), (by intros; (first | rfl | decide | with_unfolding_all rfl | kernel_rfl)), (by intros; (first | rfl | decide | with_unfolding_all rfl | kernel_rfl)), (by intros; (first | rfl | decide | with_unfolding_all rfl | kernel_rfl)), (by intros; (first | rfl | decide | with_unfolding_all rfl | kernel_rfl))⟩, ⟨?_, ga, gg, eC, hC, ca, cn, ct2, cm⟩⟩
  · rw [List.contains_cons]
    rfl
  · unfold PySem.W.clsIn
    rw [xL] <;> rfl
end RS
namespace RS
open PySem L2
/-! ### what the top has written -/
theorem all_mk {l : PySem.W.OpenLaw} {w : World} {K : PySem.W.Frag} {h : Heap} {mg : Str → Option Value} {fa : Addr} {ts : List Addr} (hts : ∀ P ∈ ts, h.get? P = some (PySem.W.tabObj #[])) (X : K.In h) (G : h.Ns mainGlobals mg) (hfa : mg "law" = some (.ref fa)) (hlong : ∃ t, mg "_LONGEST_GAP" = some (.int 1000000000000 t))
    {fa0 : Addr} {oda0 ana0 : Option Addr} {sla0 : Array (Option Value)} {oca0 kVa0 dca0 pma0 cta0 : Value}
    {coa0 Pta0 : Addr} {vsa0 : Array Value} {odca0 : Option Addr} {slca0 : Array (Option Value)}
    {fa1 : Addr} {oda1 ana1 : Option Addr} {sla1 : Array (Option Value)} {oca1 kVa1 dca1 pma1 cta1 : Value}
    {cda1 : Value}
    {fa2 : Addr} {oda2 ana2 : Option Addr} {sla2 : Array (Option Value)} {oca2 kVa2 dca2 pma2 cta2 : Value}
    {cda2 : Value}
    {fa3 : Addr} {oda3 ana3 : Option Addr} {sla3 : Array (Option Value)} {oca3 kVa3 dca3 pma3 cta3 : Value}
    {cda3 : Value}
    {fa4 : Addr} {oda4 ana4 : Option Addr} {sla4 : Array (Option Value)} {oca4 kVa4 dca4 pma4 cta4 : Value}
    {cda4 : Value}
    {fa5 : Addr} {oda5 ana5 : Option Addr} {sla5 : Array (Option Value)} {oca5 kVa5 dca5 pma5 cta5 : Value}
    {cda5 : Value}
    {fa6 : Addr} {oda6 ana6 : Option Addr} {sla6 : Array (Option Value)} {oca6 kVa6 dca6 pma6 cta6 : Value}
    {cda6 : Value}
    {fr7 : Addr} {odr7 anr7 : Option Addr} {slr7 : Array (Option Value)} {ocr7 kVr7 dcr7 pmr7 ctr7 : Value}
    {cdr7 : Value}
    {fr9 : Addr} {odr9 anr9 : Option Addr} {slr9 : Array (Option Value)} {ocr9 kVr9 dcr9 pmr9 ctr9 : Value}
    {cdr9 : Value}
    {fr10 : Addr} {odr10 anr10 : Option Addr} {slr10 : Array (Option Value)} {ocr10 kVr10 dcr10 pmr10 ctr10 : Value}
    {cdr10 : Value}
    {fr11 : Addr} {odr11 anr11 : Option Addr} {slr11 : Array (Option Value)} {ocr11 kVr11 dcr11 pmr11 ctr11 : Value}
    {cdr11 : Value}
    {fr12 : Addr} {odr12 anr12 : Option Addr} {slr12 : Array (Option Value)} {ocr12 kVr12 dcr12 pmr12 ctr12 : Value}
    {cdr12 : Value}
    {fr13 : Addr} {odr13 anr13 : Option Addr} {slr13 : Array (Option Value)} {ocr13 kVr13 dcr13 pmr13 ctr13 : Value}
    {cdr13 : Value}
    {fa15 : Addr} {oda15 ana15 : Option Addr} {sla15 : Array (Option Value)} {oca15 kVa15 dca15 pma15 cta15 : Value}
    {cda15 : Value}
    {fa16 : Addr} {oda16 ana16 : Option Addr} {sla16 : Array (Option Value)} {oca16 kVa16 dca16 pma16 cta16 : Value}
    {cda16 : Value}
    {fa17 : Addr} {oda17 ana17 : Option Addr} {sla17 : Array (Option Value)} {oca17 kVa17 dca17 pma17 cta17 : Value}
    {cda17 : Value}
    {fa18 : Addr} {oda18 ana18 : Option Addr} {sla18 : Array (Option Value)} {oca18 kVa18 dca18 pma18 cta18 : Value}
    {cda18 : Value}
    {fa19 : Addr} {oda19 ana19 : Option Addr} {sla19 : Array (Option Value)} {oca19 kVa19 dca19 pma19 cta19 : Value}
    {cda19 : Value}
    {fa20 : Addr} {oda20 ana20 : Option Addr} {sla20 : Array (Option Value)} {oca20 kVa20 dca20 pma20 cta20 : Value}
    {cda20 : Value}
    {fa21 : Addr} {oda21 ana21 : Option Addr} {sla21 : Array (Option Value)} {oca21 kVa21 dca21 pma21 cta21 : Value}
    {cda21 : Value}
    {fa22 : Addr} {oda22 ana22 : Option Addr} {sla22 : Array (Option Value)} {oca22 kVa22 dca22 pma22 cta22 : Value}
    {cda22 : Value}
    {fa23 : Addr} {oda23 ana23 : Option Addr} {sla23 : Array (Option Value)} {oca23 kVa23 dca23 pma23 cta23 : Value}
    {cda23 : Value}
    {fa24 : Addr} {oda24 ana24 : Option Addr} {sla24 : Array (Option Value)} {oca24 kVa24 dca24 pma24 cta24 : Value}
    {cda24 : Value}
    {fa25 : Addr} {oda25 ana25 : Option Addr} {sla25 : Array (Option Value)} {oca25 kVa25 dca25 pma25 cta25 : Value}
    {cda25 : Value}
    {fs26 : Addr} {ods26 ans26 : Option Addr} {sls26 : Array (Option Value)} {ocs26 kVs26 dcs26 pms26 cts26 : Value}
    {cds26 : Value}
    {fa27 : Addr} {oda27 ana27 : Option Addr} {sla27 : Array (Option Value)} {oca27 kVa27 dca27 pma27 cta27 : Value}
    {cda27 : Value}
    {fr28 : Addr} {odr28 anr28 : Option Addr} {slr28 : Array (Option Value)} {ocr28 kVr28 dcr28 pmr28 ctr28 : Value}
    {cdr28 : Value}
    {fr29 : Addr} {odr29 anr29 : Option Addr} {slr29 : Array (Option Value)} {ocr29 kVr29 dcr29 pmr29 ctr29 : Value}
    {cdr29 : Value}
    {fr30 : Addr} {odr30 anr30 : Option Addr} {slr30 : Array (Option Value)} {ocr30 kVr30 dcr30 pmr30 ctr30 : Value}
    {cdr30 : Value}
    {fr31 : Addr} {odr31 anr31 : Option Addr} {slr31 : Array (Option Value)} {ocr31 kVr31 dcr31 pmr31 ctr31 : Value}
    {cdr31 : Value}
    {fr32 : Addr} {odr32 anr32 : Option Addr} {slr32 : Array (Option Value)} {ocr32 kVr32 dcr32 pmr32 ctr32 : Value}
    {cdr32 : Value}
    {fa33 : Addr} {oda33 ana33 : Option Addr} {sla33 : Array (Option Value)} {oca33 kVa33 dca33 pma33 cta33 : Value}
    {cda33 : Value}
    {fa34 : Addr} {oda34 ana34 : Option Addr} {sla34 : Array (Option Value)} {oca34 kVa34 dca34 pma34 cta34 : Value}
    {cda34 : Value}
    {fs35 : Addr} {ods35 ans35 : Option Addr} {sls35 : Array (Option Value)} {ocs35 kVs35 dcs35 pms35 cts35 : Value}
    {cds35 : Value}
    {fs36 : Addr} {ods36 ans36 : Option Addr} {sls36 : Array (Option Value)} {ocs36 kVs36 dcs36 pms36 cts36 : Value}
    {cds36 : Value}
    {fs37 : Addr} {ods37 ans37 : Option Addr} {sls37 : Array (Option Value)} {ocs37 kVs37 dcs37 pms37 cts37 : Value}
    {cds37 : Value}
    {fa38 : Addr} {oda38 ana38 : Option Addr} {sla38 : Array (Option Value)} {oca38 kVa38 dca38 pma38 cta38 : Value}
    {cda38 : Value}
    {fa39 : Addr} {oda39 ana39 : Option Addr} {sla39 : Array (Option Value)} {oca39 kVa39 dca39 pma39 cta39 : Value}
    {cda39 : Value}
    {fa40 : Addr} {oda40 ana40 : Option Addr} {sla40 : Array (Option Value)} {oca40 kVa40 dca40 pma40 cta40 : Value}
    {cda40 : Value}
    {fa41 : Addr} {oda41 ana41 : Option Addr} {sla41 : Array (Option Value)} {oca41 kVa41 dca41 pma41 cta41 : Value}
    {cda41 : Value}
    {fa42 : Addr} {oda42 ana42 : Option Addr} {sla42 : Array (Option Value)} {oca42 kVa42 dca42 pma42 cta42 : Value}
    {cda42 : Value}
    {fa43 : Addr} {oda43 ana43 : Option Addr} {sla43 : Array (Option Value)} {oca43 kVa43 dca43 pma43 cta43 : Value}
    {cda43 : Value}
    {fa44 : Addr} {oda44 ana44 : Option Addr} {sla44 : Array (Option Value)} {oca44 kVa44 dca44 pma44 cta44 : Value}
    {cda44 : Value}
    {C : Addr}
    {CS : Addr}
    {R : Addr}
    {C_e0 f_e0 N_e0 : Addr} {nm_e0 q_e0 : Str} {bs_e0 : List Value} {sn_e0 : List Str} {sub_e0 : List Value} {ab_e0 : Bool} {col_e0 : Option Bool} {dd_e0 : Option Addr} {m0_e0 m1_e0 m2_e0 m3_e0 m5_e0 : Option Value} {od_e0 an_e0 : Option Addr} {sl_e0 : Array (Option Value)} {oc_e0 dc_e0 pm_e0 cd_e0 ct_e0 : Value}
    {C_e1 f_e1 N_e1 : Addr} {nm_e1 q_e1 : Str} {bs_e1 : List Value} {sn_e1 : List Str} {sub_e1 : List Value} {ab_e1 : Bool} {col_e1 : Option Bool} {dd_e1 : Option Addr} {m0_e1 m1_e1 m2_e1 m3_e1 m5_e1 : Option Value} {od_e1 an_e1 : Option Addr} {sl_e1 : Array (Option Value)} {oc_e1 dc_e1 pm_e1 cd_e1 ct_e1 : Value}
    {C_e2 f_e2 N_e2 : Addr} {nm_e2 q_e2 : Str} {bs_e2 : List Value} {sn_e2 : List Str} {sub_e2 : List Value} {ab_e2 : Bool} {col_e2 : Option Bool} {dd_e2 : Option Addr} {m0_e2 m1_e2 m2_e2 m3_e2 m5_e2 : Option Value} {od_e2 an_e2 : Option Addr} {sl_e2 : Array (Option Value)} {oc_e2 dc_e2 pm_e2 cd_e2 ct_e2 : Value}
    {C_e3 f_e3 N_e3 : Addr} {nm_e3 q_e3 : Str} {bs_e3 : List Value} {sn_e3 : List Str} {sub_e3 : List Value} {ab_e3 : Bool} {col_e3 : Option Bool} {dd_e3 : Option Addr} {m0_e3 m1_e3 m2_e3 m3_e3 m5_e3 : Option Value} {od_e3 an_e3 : Option Addr} {sl_e3 : Array (Option Value)} {oc_e3 dc_e3 pm_e3 cd_e3 ct_e3 : Value}
    {D_RetryError : Addr} {uk_RetryError : ClassData}
    {D_InvalidScene : Addr} {uk_InvalidScene : ClassData}
    {D_InvalidBound : Addr} {uk_InvalidBound : ClassData}
    {D_InvalidRule : Addr} {uk_InvalidRule : ClassData}
    {D_InvalidLog : Addr} {uk_InvalidLog : ClassData}
    {D_InvalidReason : Addr} {uk_InvalidReason : ClassData}
    {D_InvalidText : Addr} {uk_InvalidText : ClassData}
    {tM : Tok}
    {tF : Tok}
    {tL : Tok}
    {tC : Tok}
    {tO : Tok}
    (Aa0 : PySem.W.nsIn K mainGlobals "_law_right" = some (some (.ref fa0)))
    (La0 : K.lookup fa0 = some ⟨oca0, oda0, .func (PySem.W.fnOf "_law_right" "_law_right" (defArgs s_law_right) (defBody s_law_right) (defScope s_law_right) .none kVa0 dca0 pma0 ana0 (.ref coa0) cta0), sla0⟩) (Ca0 : PySem.W.codeIn K (.ref coa0) "_law_right" = true) (Ka0 : PySem.W.keepIn K (.ref fa0) = true)
    (lca0 : K.lookup coa0 = some ⟨.type "code", odca0, .fields vsa0, slca0⟩) (lta0 : vsa0[11]? = some (.ref Pta0)) (lha0 : PySem.W.codeHdIn K coa0 Pta0 = true) (lna0 : K.lookup Pta0 = none) (lma0 : Pta0 ∈ ts)
    (Aa1 : PySem.W.nsIn K mainGlobals "law" = some (some (.ref fa1)))
    (La1 : K.lookup fa1 = some ⟨oca1, oda1, .func (PySem.W.fnOf "law" "law" (defArgs s_law) (defBody s_law) (defScope s_law) .none kVa1 dca1 pma1 ana1 cda1 cta1), sla1⟩) (Ca1 : PySem.W.codeIn K cda1 "law" = true) (Ka1 : PySem.W.keepIn K (.ref fa1) = true)
    (Aa2 : PySem.W.nsIn K mainGlobals "is_integer" = some (some (.ref fa2)))
    (La2 : K.lookup fa2 = some ⟨oca2, oda2, .func (PySem.W.fnOf "is_integer" "is_integer" (defArgs s_is_integer) (defBody s_is_integer) (defScope s_is_integer) .none kVa2 dca2 pma2 ana2 cda2 cta2), sla2⟩) (Ca2 : PySem.W.codeIn K cda2 "is_integer" = true) (Ka2 : PySem.W.keepIn K (.ref fa2) = true)
    (Aa3 : PySem.W.nsIn K mainGlobals "are_gaps" = some (some (.ref fa3)))
    (La3 : K.lookup fa3 = some ⟨oca3, oda3, .func (PySem.W.fnOf "are_gaps" "are_gaps" (defArgs s_are_gaps) (defBody s_are_gaps) (defScope s_are_gaps) .none kVa3 dca3 pma3 ana3 cda3 cta3), sla3⟩) (Ca3 : PySem.W.codeIn K cda3 "are_gaps" = true) (Ka3 : PySem.W.keepIn K (.ref fa3) = true)
    (Aa4 : PySem.W.nsIn K mainGlobals "_is_tail" = some (some (.ref fa4)))
    (La4 : K.lookup fa4 = some ⟨oca4, oda4, .func (PySem.W.fnOf "_is_tail" "_is_tail" (defArgs s_is_tail) (defBody s_is_tail) (defScope s_is_tail) .none kVa4 dca4 pma4 ana4 cda4 cta4), sla4⟩) (Ca4 : PySem.W.codeIn K cda4 "_is_tail" = true) (Ka4 : PySem.W.keepIn K (.ref fa4) = true)
    (Aa5 : PySem.W.nsIn K mainGlobals "sums" = some (some (.ref fa5)))
    (La5 : K.lookup fa5 = some ⟨oca5, oda5, .func (PySem.W.fnOf "sums" "sums" (defArgs s_sums) (defBody s_sums) (defScope s_sums) .none kVa5 dca5 pma5 ana5 cda5 cta5), sla5⟩) (Ca5 : PySem.W.codeIn K cda5 "sums" = true) (Ka5 : PySem.W.keepIn K (.ref fa5) = true)
    (Aa6 : PySem.W.nsIn K mainGlobals "_power" = some (some (.ref fa6)))
    (La6 : K.lookup fa6 = some ⟨oca6, oda6, .func (PySem.W.fnOf "_power" "_power" (defArgs s_power) (defBody s_power) (defScope s_power) .none kVa6 dca6 pma6 ana6 cda6 cta6), sla6⟩) (Ca6 : PySem.W.codeIn K cda6 "_power" = true) (Ka6 : PySem.W.keepIn K (.ref fa6) = true)
    (Ar7 : PySem.W.findIn K (.ref C) "__init__" = some (some (.ref fr7))) (Ir7 : PySem.W.isFn K (.ref fr7) = true)
    (Lr7 : K.lookup fr7 = some ⟨ocr7, odr7, .func (PySem.W.fnOf "__init__" "Rule.__init__" (defArgs s_Rule_ddinitdd) (defBody s_Rule_ddinitdd) (defScope s_Rule_ddinitdd) .none kVr7 dcr7 pmr7 anr7 cdr7 ctr7), slr7⟩) (Cr7 : PySem.W.codeIn K cdr7 "Rule.__init__" = true) (Kr7 : PySem.W.keepIn K (.ref fr7) = true)
    (Ar9 : PySem.W.findIn K (.ref C) "first_repeating" = some (some (.ref fr9))) (Ir9 : PySem.W.isFn K (.ref fr9) = true)
    (Lr9 : K.lookup fr9 = some ⟨ocr9, odr9, .func (PySem.W.fnOf "first_repeating" "Rule.first_repeating" (defArgs s_Rule_first_repeating) (defBody s_Rule_first_repeating) (defScope s_Rule_first_repeating) .none kVr9 dcr9 pmr9 anr9 cdr9 ctr9), slr9⟩) (Cr9 : PySem.W.codeIn K cdr9 "Rule.first_repeating" = true) (Kr9 : PySem.W.keepIn K (.ref fr9) = true)
    (Ar10 : PySem.W.findIn K (.ref C) "period" = some (some (.ref fr10))) (Ir10 : PySem.W.isFn K (.ref fr10) = true)
    (Lr10 : K.lookup fr10 = some ⟨ocr10, odr10, .func (PySem.W.fnOf "period" "Rule.period" (defArgs s_Rule_period) (defBody s_Rule_period) (defScope s_Rule_period) .none kVr10 dcr10 pmr10 anr10 cdr10 ctr10), slr10⟩) (Cr10 : PySem.W.codeIn K cdr10 "Rule.period" = true) (Kr10 : PySem.W.keepIn K (.ref fr10) = true)
    (Ar11 : PySem.W.findIn K (.ref C) "_check_attempt" = some (some (.ref fr11))) (Ir11 : PySem.W.isFn K (.ref fr11) = true)
    (Lr11 : K.lookup fr11 = some ⟨ocr11, odr11, .func (PySem.W.fnOf "_check_attempt" "Rule._check_attempt" (defArgs s_Rule_check_attempt) (defBody s_Rule_check_attempt) (defScope s_Rule_check_attempt) .none kVr11 dcr11 pmr11 anr11 cdr11 ctr11), slr11⟩) (Cr11 : PySem.W.codeIn K cdr11 "Rule._check_attempt" = true) (Kr11 : PySem.W.keepIn K (.ref fr11) = true)
    (Ar12 : PySem.W.findIn K (.ref C) "_offset_of" = some (some (.ref fr12))) (Ir12 : PySem.W.isFn K (.ref fr12) = true)
    (Lr12 : K.lookup fr12 = some ⟨ocr12, odr12, .func (PySem.W.fnOf "_offset_of" "Rule._offset_of" (defArgs s_Rule_offset_of) (defBody s_Rule_offset_of) (defScope s_Rule_offset_of) .none kVr12 dcr12 pmr12 anr12 cdr12 ctr12), slr12⟩) (Cr12 : PySem.W.codeIn K cdr12 "Rule._offset_of" = true) (Kr12 : PySem.W.keepIn K (.ref fr12) = true)
    (Ar13 : PySem.W.findIn K (.ref C) "offset" = some (some (.ref fr13))) (Ir13 : PySem.W.isFn K (.ref fr13) = true)
    (Lr13 : K.lookup fr13 = some ⟨ocr13, odr13, .func (PySem.W.fnOf "offset" "Rule.offset" (defArgs s_Rule_offset) (defBody s_Rule_offset) (defScope s_Rule_offset) .none kVr13 dcr13 pmr13 anr13 cdr13 ctr13), slr13⟩) (Cr13 : PySem.W.codeIn K cdr13 "Rule.offset" = true) (Kr13 : PySem.W.keepIn K (.ref fr13) = true)
    (Aa15 : PySem.W.nsIn K mainGlobals "_law_well" = some (some (.ref fa15)))
    (La15 : K.lookup fa15 = some ⟨oca15, oda15, .func (PySem.W.fnOf "_law_well" "_law_well" (defArgs s_law_well) (defBody s_law_well) (defScope s_law_well) .none kVa15 dca15 pma15 ana15 cda15 cta15), sla15⟩) (Ca15 : PySem.W.codeIn K cda15 "_law_well" = true) (Ka15 : PySem.W.keepIn K (.ref fa15) = true)
    (Aa16 : PySem.W.nsIn K mainGlobals "_law_mixed" = some (some (.ref fa16)))
    (La16 : K.lookup fa16 = some ⟨oca16, oda16, .func (PySem.W.fnOf "_law_mixed" "_law_mixed" (defArgs s_law_mixed) (defBody s_law_mixed) (defScope s_law_mixed) .none kVa16 dca16 pma16 ana16 cda16 cta16), sla16⟩) (Ca16 : PySem.W.codeIn K cda16 "_law_mixed" = true) (Ka16 : PySem.W.keepIn K (.ref fa16) = true)
    (Aa17 : PySem.W.nsIn K mainGlobals "_law_draw" = some (some (.ref fa17)))
    (La17 : K.lookup fa17 = some ⟨oca17, oda17, .func (PySem.W.fnOf "_law_draw" "_law_draw" (defArgs s_law_draw) (defBody s_law_draw) (defScope s_law_draw) .none kVa17 dca17 pma17 ana17 cda17 cta17), sla17⟩) (Ca17 : PySem.W.codeIn K cda17 "_law_draw" = true) (Ka17 : PySem.W.keepIn K (.ref fa17) = true)
    (Aa18 : PySem.W.nsIn K mainGlobals "_law_one" = some (some (.ref fa18)))
    (La18 : K.lookup fa18 = some ⟨oca18, oda18, .func (PySem.W.fnOf "_law_one" "_law_one" (defArgs s_law_one) (defBody s_law_one) (defScope s_law_one) .none kVa18 dca18 pma18 ana18 cda18 cta18), sla18⟩) (Ca18 : PySem.W.codeIn K cda18 "_law_one" = true) (Ka18 : PySem.W.keepIn K (.ref fa18) = true)
    (Aa19 : PySem.W.nsIn K mainGlobals "_law_gaps" = some (some (.ref fa19)))
    (La19 : K.lookup fa19 = some ⟨oca19, oda19, .func (PySem.W.fnOf "_law_gaps" "_law_gaps" (defArgs s_law_gaps) (defBody s_law_gaps) (defScope s_law_gaps) .none kVa19 dca19 pma19 ana19 cda19 cta19), sla19⟩) (Ca19 : PySem.W.codeIn K cda19 "_law_gaps" = true) (Ka19 : PySem.W.keepIn K (.ref fa19) = true)
    (Aa20 : PySem.W.nsIn K mainGlobals "_law_windows" = some (some (.ref fa20)))
    (La20 : K.lookup fa20 = some ⟨oca20, oda20, .func (PySem.W.fnOf "_law_windows" "_law_windows" (defArgs s_law_windows) (defBody s_law_windows) (defScope s_law_windows) .none kVa20 dca20 pma20 ana20 cda20 cta20), sla20⟩) (Ca20 : PySem.W.codeIn K cda20 "_law_windows" = true) (Ka20 : PySem.W.keepIn K (.ref fa20) = true)
    (Aa21 : PySem.W.nsIn K mainGlobals "_law_parts" = some (some (.ref fa21)))
    (La21 : K.lookup fa21 = some ⟨oca21, oda21, .func (PySem.W.fnOf "_law_parts" "_law_parts" (defArgs s_law_parts) (defBody s_law_parts) (defScope s_law_parts) .none kVa21 dca21 pma21 ana21 cda21 cta21), sla21⟩) (Ca21 : PySem.W.codeIn K cda21 "_law_parts" = true) (Ka21 : PySem.W.keepIn K (.ref fa21) = true)
    (Aa22 : PySem.W.nsIn K mainGlobals "check_starts" = some (some (.ref fa22)))
    (La22 : K.lookup fa22 = some ⟨oca22, oda22, .func (PySem.W.fnOf "check_starts" "check_starts" (defArgs s_check_starts) (defBody s_check_starts) (defScope s_check_starts) .none kVa22 dca22 pma22 ana22 cda22 cta22), sla22⟩) (Ca22 : PySem.W.codeIn K cda22 "check_starts" = true) (Ka22 : PySem.W.keepIn K (.ref fa22) = true)
    (Aa23 : PySem.W.nsIn K mainGlobals "are_two_integers" = some (some (.ref fa23)))
    (La23 : K.lookup fa23 = some ⟨oca23, oda23, .func (PySem.W.fnOf "are_two_integers" "are_two_integers" (defArgs s_are_two_integers) (defBody s_are_two_integers) (defScope s_are_two_integers) .none kVa23 dca23 pma23 ana23 cda23 cta23), sla23⟩) (Ca23 : PySem.W.codeIn K cda23 "are_two_integers" = true) (Ka23 : PySem.W.keepIn K (.ref fa23) = true)
    (Aa24 : PySem.W.nsIn K mainGlobals "are_slots" = some (some (.ref fa24)))
    (La24 : K.lookup fa24 = some ⟨oca24, oda24, .func (PySem.W.fnOf "are_slots" "are_slots" (defArgs s_are_slots) (defBody s_are_slots) (defScope s_are_slots) .none kVa24 dca24 pma24 ana24 cda24 cta24), sla24⟩) (Ca24 : PySem.W.codeIn K cda24 "are_slots" = true) (Ka24 : PySem.W.keepIn K (.ref fa24) = true)
    (Aa25 : PySem.W.nsIn K mainGlobals "_check_outages" = some (some (.ref fa25)))
    (La25 : K.lookup fa25 = some ⟨oca25, oda25, .func (PySem.W.fnOf "_check_outages" "_check_outages" (defArgs s_check_outages) (defBody s_check_outages) (defScope s_check_outages) .none kVa25 dca25 pma25 ana25 cda25 cta25), sla25⟩) (Ca25 : PySem.W.codeIn K cda25 "_check_outages" = true) (Ka25 : PySem.W.keepIn K (.ref fa25) = true)
    (As26 : PySem.W.findIn K (.ref CS) "__init__" = some (some (.ref fs26))) (Is26 : PySem.W.isFn K (.ref fs26) = true)
    (Ls26 : K.lookup fs26 = some ⟨ocs26, ods26, .func (PySem.W.fnOf "__init__" "Scene.__init__" (defArgs s_Scene_ddinitdd) (defBody s_Scene_ddinitdd) (defScope s_Scene_ddinitdd) .none kVs26 dcs26 pms26 ans26 cds26 cts26), sls26⟩) (Cs26 : PySem.W.codeIn K cds26 "Scene.__init__" = true) (Ks26 : PySem.W.keepIn K (.ref fs26) = true)
    (Aa27 : PySem.W.nsIn K mainGlobals "_first_at_least" = some (some (.ref fa27)))
    (La27 : K.lookup fa27 = some ⟨oca27, oda27, .func (PySem.W.fnOf "_first_at_least" "_first_at_least" (defArgs s_first_at_least) (defBody s_first_at_least) (defScope s_first_at_least) .none kVa27 dca27 pma27 ana27 cda27 cta27), sla27⟩) (Ca27 : PySem.W.codeIn K cda27 "_first_at_least" = true) (Ka27 : PySem.W.keepIn K (.ref fa27) = true)
    (Ar28 : PySem.W.findIn K (.ref C) "_surely_short" = some (some (.ref fr28))) (Ir28 : PySem.W.isFn K (.ref fr28) = true)
    (Lr28 : K.lookup fr28 = some ⟨ocr28, odr28, .func (PySem.W.fnOf "_surely_short" "Rule._surely_short" (defArgs s_Rule_surely_short) (defBody s_Rule_surely_short) (defScope s_Rule_surely_short) .none kVr28 dcr28 pmr28 anr28 cdr28 ctr28), slr28⟩) (Cr28 : PySem.W.codeIn K cdr28 "Rule._surely_short" = true) (Kr28 : PySem.W.keepIn K (.ref fr28) = true)
    (Ar29 : PySem.W.findIn K (.ref C) "_first_growing" = some (some (.ref fr29))) (Ir29 : PySem.W.isFn K (.ref fr29) = true)
    (Lr29 : K.lookup fr29 = some ⟨ocr29, odr29, .func (PySem.W.fnOf "_first_growing" "Rule._first_growing" (defArgs s_Rule_first_growing) (defBody s_Rule_first_growing) (defScope s_Rule_first_growing) .none kVr29 dcr29 pmr29 anr29 cdr29 ctr29), slr29⟩) (Cr29 : PySem.W.codeIn K cdr29 "Rule._first_growing" = true) (Kr29 : PySem.W.keepIn K (.ref fr29) = true)
    (Ar30 : PySem.W.findIn K (.ref C) "_first_repeated" = some (some (.ref fr30))) (Ir30 : PySem.W.isFn K (.ref fr30) = true)
    (Lr30 : K.lookup fr30 = some ⟨ocr30, odr30, .func (PySem.W.fnOf "_first_repeated" "Rule._first_repeated" (defArgs s_Rule_first_repeated) (defBody s_Rule_first_repeated) (defScope s_Rule_first_repeated) .none kVr30 dcr30 pmr30 anr30 cdr30 ctr30), slr30⟩) (Cr30 : PySem.W.codeIn K cdr30 "Rule._first_repeated" = true) (Kr30 : PySem.W.keepIn K (.ref fr30) = true)
    (Ar31 : PySem.W.findIn K (.ref C) "first_from" = some (some (.ref fr31))) (Ir31 : PySem.W.isFn K (.ref fr31) = true)
    (Lr31 : K.lookup fr31 = some ⟨ocr31, odr31, .func (PySem.W.fnOf "first_from" "Rule.first_from" (defArgs s_Rule_first_from) (defBody s_Rule_first_from) (defScope s_Rule_first_from) .none kVr31 dcr31 pmr31 anr31 cdr31 ctr31), slr31⟩) (Cr31 : PySem.W.codeIn K cdr31 "Rule.first_from" = true) (Kr31 : PySem.W.keepIn K (.ref fr31) = true)
    (Ar32 : PySem.W.findIn K (.ref C) "attempt_at" = some (some (.ref fr32))) (Ir32 : PySem.W.isFn K (.ref fr32) = true)
    (Lr32 : K.lookup fr32 = some ⟨ocr32, odr32, .func (PySem.W.fnOf "attempt_at" "Rule.attempt_at" (defArgs s_Rule_attempt_at) (defBody s_Rule_attempt_at) (defScope s_Rule_attempt_at) .none kVr32 dcr32 pmr32 anr32 cdr32 ctr32), slr32⟩) (Cr32 : PySem.W.codeIn K cdr32 "Rule.attempt_at" = true) (Kr32 : PySem.W.keepIn K (.ref fr32) = true)
    (Aa33 : PySem.W.nsIn K mainGlobals "check_slot" = some (some (.ref fa33)))
    (La33 : K.lookup fa33 = some ⟨oca33, oda33, .func (PySem.W.fnOf "check_slot" "check_slot" (defArgs s_check_slot) (defBody s_check_slot) (defScope s_check_slot) .none kVa33 dca33 pma33 ana33 cda33 cta33), sla33⟩) (Ca33 : PySem.W.codeIn K cda33 "check_slot" = true) (Ka33 : PySem.W.keepIn K (.ref fa33) = true)
    (Aa34 : PySem.W.nsIn K mainGlobals "check_client" = some (some (.ref fa34)))
    (La34 : K.lookup fa34 = some ⟨oca34, oda34, .func (PySem.W.fnOf "check_client" "check_client" (defArgs s_check_client) (defBody s_check_client) (defScope s_check_client) .none kVa34 dca34 pma34 ana34 cda34 cta34), sla34⟩) (Ca34 : PySem.W.codeIn K cda34 "check_client" = true) (Ka34 : PySem.W.keepIn K (.ref fa34) = true)
    (As35 : PySem.W.findIn K (.ref CS) "slot_of" = some (some (.ref fs35))) (Is35 : PySem.W.isFn K (.ref fs35) = true)
    (Ls35 : K.lookup fs35 = some ⟨ocs35, ods35, .func (PySem.W.fnOf "slot_of" "Scene.slot_of" (defArgs s_Scene_slot_of) (defBody s_Scene_slot_of) (defScope s_Scene_slot_of) .none kVs35 dcs35 pms35 ans35 cds35 cts35), sls35⟩) (Cs35 : PySem.W.codeIn K cds35 "Scene.slot_of" = true) (Ks35 : PySem.W.keepIn K (.ref fs35) = true)
    (As36 : PySem.W.findIn K (.ref CS) "attempt_in" = some (some (.ref fs36))) (Is36 : PySem.W.isFn K (.ref fs36) = true)
    (Ls36 : K.lookup fs36 = some ⟨ocs36, ods36, .func (PySem.W.fnOf "attempt_in" "Scene.attempt_in" (defArgs s_Scene_attempt_in) (defBody s_Scene_attempt_in) (defScope s_Scene_attempt_in) .none kVs36 dcs36 pms36 ans36 cds36 cts36), sls36⟩) (Cs36 : PySem.W.codeIn K cds36 "Scene.attempt_in" = true) (Ks36 : PySem.W.keepIn K (.ref fs36) = true)
    (As37 : PySem.W.findIn K (.ref CS) "outage_at" = some (some (.ref fs37))) (Is37 : PySem.W.isFn K (.ref fs37) = true)
    (Ls37 : K.lookup fs37 = some ⟨ocs37, ods37, .func (PySem.W.fnOf "outage_at" "Scene.outage_at" (defArgs s_Scene_outage_at) (defBody s_Scene_outage_at) (defScope s_Scene_outage_at) .none kVs37 dcs37 pms37 ans37 cds37 cts37), sls37⟩) (Cs37 : PySem.W.codeIn K cds37 "Scene.outage_at" = true) (Ks37 : PySem.W.keepIn K (.ref fs37) = true)
    (Aa38 : PySem.W.nsIn K mainGlobals "_law_made" = some (some (.ref fa38)))
    (La38 : K.lookup fa38 = some ⟨oca38, oda38, .func (PySem.W.fnOf "_law_made" "_law_made" (defArgs s_law_made) (defBody s_law_made) (defScope s_law_made) .none kVa38 dca38 pma38 ana38 cda38 cta38), sla38⟩) (Ca38 : PySem.W.codeIn K cda38 "_law_made" = true) (Ka38 : PySem.W.keepIn K (.ref fa38) = true)
    (Aa39 : PySem.W.nsIn K mainGlobals "_law_far" = some (some (.ref fa39)))
    (La39 : K.lookup fa39 = some ⟨oca39, oda39, .func (PySem.W.fnOf "_law_far" "_law_far" (defArgs s_law_far) (defBody s_law_far) (defScope s_law_far) .none kVa39 dca39 pma39 ana39 cda39 cta39), sla39⟩) (Ca39 : PySem.W.codeIn K cda39 "_law_far" = true) (Ka39 : PySem.W.keepIn K (.ref fa39) = true)
    (Aa40 : PySem.W.nsIn K mainGlobals "_law_offsets" = some (some (.ref fa40)))
    (La40 : K.lookup fa40 = some ⟨oca40, oda40, .func (PySem.W.fnOf "_law_offsets" "_law_offsets" (defArgs s_law_offsets) (defBody s_law_offsets) (defScope s_law_offsets) .none kVa40 dca40 pma40 ana40 cda40 cta40), sla40⟩) (Ca40 : PySem.W.codeIn K cda40 "_law_offsets" = true) (Ka40 : PySem.W.keepIn K (.ref fa40) = true)
    (Aa41 : PySem.W.nsIn K mainGlobals "_law_slots_right" = some (some (.ref fa41)))
    (La41 : K.lookup fa41 = some ⟨oca41, oda41, .func (PySem.W.fnOf "_law_slots_right" "_law_slots_right" (defArgs s_law_slots_right) (defBody s_law_slots_right) (defScope s_law_slots_right) .none kVa41 dca41 pma41 ana41 cda41 cta41), sla41⟩) (Ca41 : PySem.W.codeIn K cda41 "_law_slots_right" = true) (Ka41 : PySem.W.keepIn K (.ref fa41) = true)
    (Aa42 : PySem.W.nsIn K mainGlobals "_law_windows_right" = some (some (.ref fa42)))
    (La42 : K.lookup fa42 = some ⟨oca42, oda42, .func (PySem.W.fnOf "_law_windows_right" "_law_windows_right" (defArgs s_law_windows_right) (defBody s_law_windows_right) (defScope s_law_windows_right) .none kVa42 dca42 pma42 ana42 cda42 cta42), sla42⟩) (Ca42 : PySem.W.codeIn K cda42 "_law_windows_right" = true) (Ka42 : PySem.W.keepIn K (.ref fa42) = true)
    (Aa43 : PySem.W.nsIn K mainGlobals "_law_far_right" = some (some (.ref fa43)))
    (La43 : K.lookup fa43 = some ⟨oca43, oda43, .func (PySem.W.fnOf "_law_far_right" "_law_far_right" (defArgs s_law_far_right) (defBody s_law_far_right) (defScope s_law_far_right) .none kVa43 dca43 pma43 ana43 cda43 cta43), sla43⟩) (Ca43 : PySem.W.codeIn K cda43 "_law_far_right" = true) (Ka43 : PySem.W.keepIn K (.ref fa43) = true)
    (Aa44 : PySem.W.nsIn K mainGlobals "_law_said" = some (some (.ref fa44)))
    (La44 : K.lookup fa44 = some ⟨oca44, oda44, .func (PySem.W.fnOf "_law_said" "_law_said" (defArgs s_law_said) (defBody s_law_said) (defScope s_law_said) .none kVa44 dca44 pma44 ana44 cda44 cta44), sla44⟩) (Ca44 : PySem.W.codeIn K cda44 "_law_said" = true) (Ka44 : PySem.W.keepIn K (.ref fa44) = true)
    (aC : PySem.W.nsIn K mainGlobals "Rule" = some (some (.ref C)))
    (pg : PySem.W.plainGet K C Str.empty = true)
    (hd : PySem.W.hasDictIn K C = true)
    (po : PySem.W.plainOver K C = true)
    (sa : PySem.W.findIn K (.ref C) "__setattr__" = some (some (.builtin "object.__setattr__")))
    (mk : PySem.W.makesIn K C = true)
    (kc : PySem.W.keepIn K (.ref C) = true)
    (n0 : PySem.W.findIn K (.ref C) "_gaps" = some none)
    (n1 : PySem.W.findIn K (.ref C) "_tail" = some none)
    (n2 : PySem.W.findIn K (.ref C) "_offsets" = some none)
    (iha : PySem.W.findIn K (.ref C) "__class__" = some (some (.builtin "object.__class__")))
    (ihm : PySem.W.mroIn K C (.type "object") = some true)
    (aC_s : PySem.W.nsIn K mainGlobals "Scene" = some (some (.ref CS)))
    (pg_s : PySem.W.plainGet K CS Str.empty = true)
    (hd_s : PySem.W.hasDictIn K CS = true)
    (po_s : PySem.W.plainOver K CS = true)
    (sa_s : PySem.W.findIn K (.ref CS) "__setattr__" = some (some (.builtin "object.__setattr__")))
    (mk_s : PySem.W.makesIn K CS = true)
    (kc_s : PySem.W.keepIn K (.ref CS) = true)
    (n0_s : PySem.W.findIn K (.ref CS) "_rule" = some none)
    (n1_s : PySem.W.findIn K (.ref CS) "_starts" = some none)
    (n2_s : PySem.W.findIn K (.ref CS) "_outages" = some none)
    (n3_s : PySem.W.findIn K (.ref CS) "_length" = some none)
    (ihn : PySem.W.specialIn K (.builtin "object.__class__") "__get__" = some (some (.builtin "getset_descriptor.__get__"))) (iht : PySem.W.takesIn K (.builtin "object.__class__") = some true)
    (z_len : PySem.W.nsIn K mainGlobals "len" = some none)
    (z_isinstance : PySem.W.nsIn K mainGlobals "isinstance" = some none)
    (z_int : PySem.W.nsIn K mainGlobals "int" = some none)
    (z_bool : PySem.W.nsIn K mainGlobals "bool" = some none)
    (z_list : PySem.W.nsIn K mainGlobals "list" = some none)
    (z_tuple : PySem.W.nsIn K mainGlobals "tuple" = some none)
    (z_str : PySem.W.nsIn K mainGlobals "str" = some none)
    (z_all : PySem.W.nsIn K mainGlobals "all" = some none)
    (z_range : PySem.W.nsIn K mainGlobals "range" = some none)
    (z_divmod : PySem.W.nsIn K mainGlobals "divmod" = some none)
    (z_sum : PySem.W.nsIn K mainGlobals "sum" = some none)
    (z_max : PySem.W.nsIn K mainGlobals "max" = some none)
    (z_min : PySem.W.nsIn K mainGlobals "min" = some none)
    (z_sorted : PySem.W.nsIn K mainGlobals "sorted" = some none)
    (z_set : PySem.W.nsIn K mainGlobals "set" = some none)
    (z_any : PySem.W.nsIn K mainGlobals "any" = some none)
    (z_enumerate : PySem.W.nsIn K mainGlobals "enumerate" = some none)
    (z_ArithmeticError : PySem.W.nsIn K mainGlobals "ArithmeticError" = some none)
    (z_repr : PySem.W.nsIn K mainGlobals "repr" = some none)
    (aC_e0 : PySem.W.nsIn K mainGlobals "InvalidAttempt" = some (some (.ref C_e0)))
    (xL_e0 : K.lookup C_e0 = some (excClassObj nm_e0 q_e0 C_e0 N_e0 bs_e0 [.ref R, .type "ArithmeticError", .type "Exception", .type "BaseException", .type "object"] true sn_e0 sub_e0 ab_e0 col_e0 dd_e0 m0_e0 m1_e0 m2_e0 m3_e0 m5_e0 "ArithmeticError.__new__"))
    (sa_e0 : PySem.W.findIn K (.ref C_e0) "__setattr__" = some (some (.builtin "object.__setattr__")))
    (ga_e0 : PySem.W.findIn K (.ref C_e0) "__getattribute__" = some (some (.builtin "BaseException.__getattribute__")))
    (gg_e0 : PySem.W.findIn K (.ref C_e0) "__getattr__" = some none)
    (n0_e0 : PySem.W.findIn K (.ref C_e0) "attempt" = some none)
    (ov_e0 : PySem.W.excOver K C_e0 [.type "ArithmeticError", .type "Exception", .type "BaseException", .type "object"] = true)
    (k0_e0 : PySem.W.takerIn K C_e0 "attempt" = some none)
    (a1_e0 : PySem.W.findIn K (.ref C_e0) "__init__" = some (some (.ref f_e0)))
    (t1_e0 : PySem.W.typeIn K (.ref f_e0) = some (.type "function"))
    (l1_e0 : K.lookup f_e0 = some ⟨oc_e0, od_e0, .func (PySem.W.fnOf "__init__" "InvalidAttempt.__init__" (defArgs s_InvalidAttempt_ddinitdd) (defBody s_InvalidAttempt_ddinitdd) (defScope s_InvalidAttempt_ddinitdd) .none .none dc_e0 pm_e0 an_e0 cd_e0 ct_e0), sl_e0⟩) (c1_e0 : PySem.W.codeIn K cd_e0 "InvalidAttempt.__init__" = true)
    (kC_e0 : PySem.W.keepIn K (.ref C_e0) = true) (eC_e0 : PySem.W.subIn K (.ref C_e0) (.type "BaseException") = some true) (tC_e0 : PySem.W.typeIn K (.ref C_e0) = some (.type "type")) (hC_e0 : PySem.W.hasDictIn K C_e0 = true)
    (ca_e0 : PySem.W.findIn K (.ref C_e0) "__class__" = some (some (.builtin "object.__class__"))) (cn_e0 : PySem.W.specialIn K (.builtin "object.__class__") "__get__" = some (some (.builtin "getset_descriptor.__get__"))) (ct2_e0 : PySem.W.takesIn K (.builtin "object.__class__") = some true) (cm_e0 : PySem.W.mroIn K C_e0 (.type "object") = some true)
    (aC_e1 : PySem.W.nsIn K mainGlobals "LimitExceeded" = some (some (.ref C_e1)))
    (xL_e1 : K.lookup C_e1 = some (excClassObj nm_e1 q_e1 C_e1 N_e1 bs_e1 [.ref R, .type "ArithmeticError", .type "Exception", .type "BaseException", .type "object"] true sn_e1 sub_e1 ab_e1 col_e1 dd_e1 m0_e1 m1_e1 m2_e1 m3_e1 m5_e1 "ArithmeticError.__new__"))
    (sa_e1 : PySem.W.findIn K (.ref C_e1) "__setattr__" = some (some (.builtin "object.__setattr__")))
    (ga_e1 : PySem.W.findIn K (.ref C_e1) "__getattribute__" = some (some (.builtin "BaseException.__getattribute__")))
    (gg_e1 : PySem.W.findIn K (.ref C_e1) "__getattr__" = some none)
    (n0_e1 : PySem.W.findIn K (.ref C_e1) "limit" = some none)
    (ov_e1 : PySem.W.excOver K C_e1 [.type "ArithmeticError", .type "Exception", .type "BaseException", .type "object"] = true)
    (k0_e1 : PySem.W.takerIn K C_e1 "limit" = some none)
    (a1_e1 : PySem.W.findIn K (.ref C_e1) "__init__" = some (some (.ref f_e1)))
    (t1_e1 : PySem.W.typeIn K (.ref f_e1) = some (.type "function"))
    (l1_e1 : K.lookup f_e1 = some ⟨oc_e1, od_e1, .func (PySem.W.fnOf "__init__" "LimitExceeded.__init__" (defArgs s_LimitExceeded_ddinitdd) (defBody s_LimitExceeded_ddinitdd) (defScope s_LimitExceeded_ddinitdd) .none .none dc_e1 pm_e1 an_e1 cd_e1 ct_e1), sl_e1⟩) (c1_e1 : PySem.W.codeIn K cd_e1 "LimitExceeded.__init__" = true)
    (kC_e1 : PySem.W.keepIn K (.ref C_e1) = true) (eC_e1 : PySem.W.subIn K (.ref C_e1) (.type "BaseException") = some true) (tC_e1 : PySem.W.typeIn K (.ref C_e1) = some (.type "type")) (hC_e1 : PySem.W.hasDictIn K C_e1 = true)
    (ca_e1 : PySem.W.findIn K (.ref C_e1) "__class__" = some (some (.builtin "object.__class__"))) (cn_e1 : PySem.W.specialIn K (.builtin "object.__class__") "__get__" = some (some (.builtin "getset_descriptor.__get__"))) (ct2_e1 : PySem.W.takesIn K (.builtin "object.__class__") = some true) (cm_e1 : PySem.W.mroIn K C_e1 (.type "object") = some true)
    (aC_e2 : PySem.W.nsIn K mainGlobals "InvalidSlot" = some (some (.ref C_e2)))
    (xL_e2 : K.lookup C_e2 = some (excClassObj nm_e2 q_e2 C_e2 N_e2 bs_e2 [.ref R, .type "ArithmeticError", .type "Exception", .type "BaseException", .type "object"] true sn_e2 sub_e2 ab_e2 col_e2 dd_e2 m0_e2 m1_e2 m2_e2 m3_e2 m5_e2 "ArithmeticError.__new__"))
    (sa_e2 : PySem.W.findIn K (.ref C_e2) "__setattr__" = some (some (.builtin "object.__setattr__")))
    (ga_e2 : PySem.W.findIn K (.ref C_e2) "__getattribute__" = some (some (.builtin "BaseException.__getattribute__")))
    (gg_e2 : PySem.W.findIn K (.ref C_e2) "__getattr__" = some none)
    (n0_e2 : PySem.W.findIn K (.ref C_e2) "slot" = some none)
    (ov_e2 : PySem.W.excOver K C_e2 [.type "ArithmeticError", .type "Exception", .type "BaseException", .type "object"] = true)
    (k0_e2 : PySem.W.takerIn K C_e2 "slot" = some none)
    (a1_e2 : PySem.W.findIn K (.ref C_e2) "__init__" = some (some (.ref f_e2)))
    (t1_e2 : PySem.W.typeIn K (.ref f_e2) = some (.type "function"))
    (l1_e2 : K.lookup f_e2 = some ⟨oc_e2, od_e2, .func (PySem.W.fnOf "__init__" "InvalidSlot.__init__" (defArgs s_InvalidSlot_ddinitdd) (defBody s_InvalidSlot_ddinitdd) (defScope s_InvalidSlot_ddinitdd) .none .none dc_e2 pm_e2 an_e2 cd_e2 ct_e2), sl_e2⟩) (c1_e2 : PySem.W.codeIn K cd_e2 "InvalidSlot.__init__" = true)
    (kC_e2 : PySem.W.keepIn K (.ref C_e2) = true) (eC_e2 : PySem.W.subIn K (.ref C_e2) (.type "BaseException") = some true) (tC_e2 : PySem.W.typeIn K (.ref C_e2) = some (.type "type")) (hC_e2 : PySem.W.hasDictIn K C_e2 = true)
    (ca_e2 : PySem.W.findIn K (.ref C_e2) "__class__" = some (some (.builtin "object.__class__"))) (cn_e2 : PySem.W.specialIn K (.builtin "object.__class__") "__get__" = some (some (.builtin "getset_descriptor.__get__"))) (ct2_e2 : PySem.W.takesIn K (.builtin "object.__class__") = some true) (cm_e2 : PySem.W.mroIn K C_e2 (.type "object") = some true)
    (aC_e3 : PySem.W.nsIn K mainGlobals "InvalidClient" = some (some (.ref C_e3)))
    (xL_e3 : K.lookup C_e3 = some (excClassObj nm_e3 q_e3 C_e3 N_e3 bs_e3 [.ref R, .type "ArithmeticError", .type "Exception", .type "BaseException", .type "object"] true sn_e3 sub_e3 ab_e3 col_e3 dd_e3 m0_e3 m1_e3 m2_e3 m3_e3 m5_e3 "ArithmeticError.__new__"))
    (sa_e3 : PySem.W.findIn K (.ref C_e3) "__setattr__" = some (some (.builtin "object.__setattr__")))
    (ga_e3 : PySem.W.findIn K (.ref C_e3) "__getattribute__" = some (some (.builtin "BaseException.__getattribute__")))
    (gg_e3 : PySem.W.findIn K (.ref C_e3) "__getattr__" = some none)
    (n0_e3 : PySem.W.findIn K (.ref C_e3) "client" = some none)
    (ov_e3 : PySem.W.excOver K C_e3 [.type "ArithmeticError", .type "Exception", .type "BaseException", .type "object"] = true)
    (k0_e3 : PySem.W.takerIn K C_e3 "client" = some none)
    (a1_e3 : PySem.W.findIn K (.ref C_e3) "__init__" = some (some (.ref f_e3)))
    (t1_e3 : PySem.W.typeIn K (.ref f_e3) = some (.type "function"))
    (l1_e3 : K.lookup f_e3 = some ⟨oc_e3, od_e3, .func (PySem.W.fnOf "__init__" "InvalidClient.__init__" (defArgs s_InvalidClient_ddinitdd) (defBody s_InvalidClient_ddinitdd) (defScope s_InvalidClient_ddinitdd) .none .none dc_e3 pm_e3 an_e3 cd_e3 ct_e3), sl_e3⟩) (c1_e3 : PySem.W.codeIn K cd_e3 "InvalidClient.__init__" = true)
    (kC_e3 : PySem.W.keepIn K (.ref C_e3) = true) (eC_e3 : PySem.W.subIn K (.ref C_e3) (.type "BaseException") = some true) (tC_e3 : PySem.W.typeIn K (.ref C_e3) = some (.type "type")) (hC_e3 : PySem.W.hasDictIn K C_e3 = true)
    (ca_e3 : PySem.W.findIn K (.ref C_e3) "__class__" = some (some (.builtin "object.__class__"))) (cn_e3 : PySem.W.specialIn K (.builtin "object.__class__") "__get__" = some (some (.builtin "getset_descriptor.__get__"))) (ct2_e3 : PySem.W.takesIn K (.builtin "object.__class__") = some true) (cm_e3 : PySem.W.mroIn K C_e3 (.type "object") = some true)
    (aD_RetryError : PySem.W.nsIn K mainGlobals "RetryError" = some (some (.ref D_RetryError))) (uc_RetryError : PySem.W.clsIn K D_RetryError = some uk_RetryError) (ut_RetryError : PySem.W.typeIn K (.ref D_RetryError) = some (.type "type"))
    (aD_InvalidScene : PySem.W.nsIn K mainGlobals "InvalidScene" = some (some (.ref D_InvalidScene))) (uc_InvalidScene : PySem.W.clsIn K D_InvalidScene = some uk_InvalidScene) (ut_InvalidScene : PySem.W.typeIn K (.ref D_InvalidScene) = some (.type "type"))
    (aD_InvalidBound : PySem.W.nsIn K mainGlobals "InvalidBound" = some (some (.ref D_InvalidBound))) (uc_InvalidBound : PySem.W.clsIn K D_InvalidBound = some uk_InvalidBound) (ut_InvalidBound : PySem.W.typeIn K (.ref D_InvalidBound) = some (.type "type"))
    (aD_InvalidRule : PySem.W.nsIn K mainGlobals "InvalidRule" = some (some (.ref D_InvalidRule))) (uc_InvalidRule : PySem.W.clsIn K D_InvalidRule = some uk_InvalidRule) (ut_InvalidRule : PySem.W.typeIn K (.ref D_InvalidRule) = some (.type "type"))
    (aD_InvalidLog : PySem.W.nsIn K mainGlobals "InvalidLog" = some (some (.ref D_InvalidLog))) (uc_InvalidLog : PySem.W.clsIn K D_InvalidLog = some uk_InvalidLog) (ut_InvalidLog : PySem.W.typeIn K (.ref D_InvalidLog) = some (.type "type"))
    (aD_InvalidReason : PySem.W.nsIn K mainGlobals "InvalidReason" = some (some (.ref D_InvalidReason))) (uc_InvalidReason : PySem.W.clsIn K D_InvalidReason = some uk_InvalidReason) (ut_InvalidReason : PySem.W.typeIn K (.ref D_InvalidReason) = some (.type "type"))
    (aD_InvalidText : PySem.W.nsIn K mainGlobals "InvalidText" = some (some (.ref D_InvalidText))) (uc_InvalidText : PySem.W.clsIn K D_InvalidText = some uk_InvalidText) (ut_InvalidText : PySem.W.typeIn K (.ref D_InvalidText) = some (.type "type"))
    (rb_R : PySem.W.subIn K (.ref D_RetryError) (.type "BaseException") = some true)
    (rr_0 : PySem.W.subIn K (.ref C_e0) (.ref D_RetryError) = some true)
    (ra_0 : PySem.W.subIn K (.ref C_e0) (.type "ArithmeticError") = some true)
    (rs_0_InvalidScene : PySem.W.subIn K (.ref C_e0) (.ref D_InvalidScene) = some false)
    (rq_0_InvalidScene : C_e0 ≠ D_InvalidScene)
    (rs_0_InvalidClient : PySem.W.subIn K (.ref C_e0) (.ref C_e3) = some false)
    (rq_0_InvalidClient : C_e0 ≠ C_e3)
    (rs_0_InvalidSlot : PySem.W.subIn K (.ref C_e0) (.ref C_e2) = some false)
    (rq_0_InvalidSlot : C_e0 ≠ C_e2)
    (rs_0_InvalidBound : PySem.W.subIn K (.ref C_e0) (.ref D_InvalidBound) = some false)
    (rq_0_InvalidBound : C_e0 ≠ D_InvalidBound)
    (rs_0_LimitExceeded : PySem.W.subIn K (.ref C_e0) (.ref C_e1) = some false)
    (rq_0_LimitExceeded : C_e0 ≠ C_e1)
    (rs_0_InvalidRule : PySem.W.subIn K (.ref C_e0) (.ref D_InvalidRule) = some false)
    (rq_0_InvalidRule : C_e0 ≠ D_InvalidRule)
    (rs_0_InvalidLog : PySem.W.subIn K (.ref C_e0) (.ref D_InvalidLog) = some false)
    (rq_0_InvalidLog : C_e0 ≠ D_InvalidLog)
    (rs_0_InvalidReason : PySem.W.subIn K (.ref C_e0) (.ref D_InvalidReason) = some false)
    (rq_0_InvalidReason : C_e0 ≠ D_InvalidReason)
    (rs_0_InvalidText : PySem.W.subIn K (.ref C_e0) (.ref D_InvalidText) = some false)
    (rq_0_InvalidText : C_e0 ≠ D_InvalidText)
    (rr_1 : PySem.W.subIn K (.ref C_e1) (.ref D_RetryError) = some true)
    (ra_1 : PySem.W.subIn K (.ref C_e1) (.type "ArithmeticError") = some true)
    (rs_1_InvalidScene : PySem.W.subIn K (.ref C_e1) (.ref D_InvalidScene) = some false)
    (rq_1_InvalidScene : C_e1 ≠ D_InvalidScene)
    (rs_1_InvalidClient : PySem.W.subIn K (.ref C_e1) (.ref C_e3) = some false)
    (rq_1_InvalidClient : C_e1 ≠ C_e3)
    (rs_1_InvalidSlot : PySem.W.subIn K (.ref C_e1) (.ref C_e2) = some false)
    (rq_1_InvalidSlot : C_e1 ≠ C_e2)
    (rs_1_InvalidAttempt : PySem.W.subIn K (.ref C_e1) (.ref C_e0) = some false)
    (rq_1_InvalidAttempt : C_e1 ≠ C_e0)
    (rs_1_InvalidBound : PySem.W.subIn K (.ref C_e1) (.ref D_InvalidBound) = some false)
    (rq_1_InvalidBound : C_e1 ≠ D_InvalidBound)
    (rs_1_InvalidRule : PySem.W.subIn K (.ref C_e1) (.ref D_InvalidRule) = some false)
    (rq_1_InvalidRule : C_e1 ≠ D_InvalidRule)
    (rs_1_InvalidLog : PySem.W.subIn K (.ref C_e1) (.ref D_InvalidLog) = some false)
    (rq_1_InvalidLog : C_e1 ≠ D_InvalidLog)
    (rs_1_InvalidReason : PySem.W.subIn K (.ref C_e1) (.ref D_InvalidReason) = some false)
    (rq_1_InvalidReason : C_e1 ≠ D_InvalidReason)
    (rs_1_InvalidText : PySem.W.subIn K (.ref C_e1) (.ref D_InvalidText) = some false)
    (rq_1_InvalidText : C_e1 ≠ D_InvalidText)
    (rr_2 : PySem.W.subIn K (.ref C_e2) (.ref D_RetryError) = some true)
    (ra_2 : PySem.W.subIn K (.ref C_e2) (.type "ArithmeticError") = some true)
    (rs_2_InvalidScene : PySem.W.subIn K (.ref C_e2) (.ref D_InvalidScene) = some false)
    (rq_2_InvalidScene : C_e2 ≠ D_InvalidScene)
    (rs_2_InvalidClient : PySem.W.subIn K (.ref C_e2) (.ref C_e3) = some false)
    (rq_2_InvalidClient : C_e2 ≠ C_e3)
    (rs_2_InvalidAttempt : PySem.W.subIn K (.ref C_e2) (.ref C_e0) = some false)
    (rq_2_InvalidAttempt : C_e2 ≠ C_e0)
    (rs_2_InvalidBound : PySem.W.subIn K (.ref C_e2) (.ref D_InvalidBound) = some false)
    (rq_2_InvalidBound : C_e2 ≠ D_InvalidBound)
    (rs_2_LimitExceeded : PySem.W.subIn K (.ref C_e2) (.ref C_e1) = some false)
    (rq_2_LimitExceeded : C_e2 ≠ C_e1)
    (rs_2_InvalidRule : PySem.W.subIn K (.ref C_e2) (.ref D_InvalidRule) = some false)
    (rq_2_InvalidRule : C_e2 ≠ D_InvalidRule)
    (rs_2_InvalidLog : PySem.W.subIn K (.ref C_e2) (.ref D_InvalidLog) = some false)
    (rq_2_InvalidLog : C_e2 ≠ D_InvalidLog)
    (rs_2_InvalidReason : PySem.W.subIn K (.ref C_e2) (.ref D_InvalidReason) = some false)
    (rq_2_InvalidReason : C_e2 ≠ D_InvalidReason)
    (rs_2_InvalidText : PySem.W.subIn K (.ref C_e2) (.ref D_InvalidText) = some false)
    (rq_2_InvalidText : C_e2 ≠ D_InvalidText)
    (rr_3 : PySem.W.subIn K (.ref C_e3) (.ref D_RetryError) = some true)
    (ra_3 : PySem.W.subIn K (.ref C_e3) (.type "ArithmeticError") = some true)
    (rs_3_InvalidScene : PySem.W.subIn K (.ref C_e3) (.ref D_InvalidScene) = some false)
    (rq_3_InvalidScene : C_e3 ≠ D_InvalidScene)
    (rs_3_InvalidSlot : PySem.W.subIn K (.ref C_e3) (.ref C_e2) = some false)
    (rq_3_InvalidSlot : C_e3 ≠ C_e2)
    (rs_3_InvalidAttempt : PySem.W.subIn K (.ref C_e3) (.ref C_e0) = some false)
    (rq_3_InvalidAttempt : C_e3 ≠ C_e0)
    (rs_3_InvalidBound : PySem.W.subIn K (.ref C_e3) (.ref D_InvalidBound) = some false)
    (rq_3_InvalidBound : C_e3 ≠ D_InvalidBound)
    (rs_3_LimitExceeded : PySem.W.subIn K (.ref C_e3) (.ref C_e1) = some false)
    (rq_3_LimitExceeded : C_e3 ≠ C_e1)
    (rs_3_InvalidRule : PySem.W.subIn K (.ref C_e3) (.ref D_InvalidRule) = some false)
    (rq_3_InvalidRule : C_e3 ≠ D_InvalidRule)
    (rs_3_InvalidLog : PySem.W.subIn K (.ref C_e3) (.ref D_InvalidLog) = some false)
    (rq_3_InvalidLog : C_e3 ≠ D_InvalidLog)
    (rs_3_InvalidReason : PySem.W.subIn K (.ref C_e3) (.ref D_InvalidReason) = some false)
    (rq_3_InvalidReason : C_e3 ≠ D_InvalidReason)
    (rs_3_InvalidText : PySem.W.subIn K (.ref C_e3) (.ref D_InvalidText) = some false)
    (rq_3_InvalidText : C_e3 ≠ D_InvalidText)
    (c_tM : PySem.W.nsIn K mainGlobals "_MOST_GAPS" = some (some (.int 20 tM)))
    (c_tF : PySem.W.nsIn K mainGlobals "_GREATEST_FACTOR" = some (some (.int 1000 tF)))
    (c_tL : PySem.W.nsIn K mainGlobals "LAST_GROWING" = some (some (.int 1000 tL)))
    (c_tC : PySem.W.nsIn K mainGlobals "MOST_CLIENTS" = some (some (.int 40 tC)))
    (c_tO : PySem.W.nsIn K mainGlobals "_MOST_OUTAGES" = some (some (.int 10 tO))) :
    LamX.LawCalm l w K 11 63 "_law_script" mg fa h := by
  have e := hfa.symm.trans (PySem.W.mg_of X G Aa1)
  cases e
  have T : Txt K mg C := ⟨⟨pg, hd, po, sa⟩, n0, n1, n2, PySem.W.mg_of X G aC, PySem.W.mg_none_of X G z_len, PySem.W.mg_none_of X G z_isinstance, PySem.W.mg_none_of X G z_int, PySem.W.mg_none_of X G z_bool, PySem.W.mg_none_of X G z_list, PySem.W.mg_none_of X G z_tuple, PySem.W.mg_none_of X G z_str, PySem.W.mg_none_of X G z_all, PySem.W.mg_none_of X G z_range, PySem.W.mg_none_of X G z_divmod, PySem.W.mg_none_of X G z_sum, PySem.W.mg_none_of X G z_max, PySem.W.mg_none_of X G z_min, PySem.W.mg_none_of X G z_sorted, PySem.W.mg_none_of X G z_set, PySem.W.mg_none_of X G z_any, PySem.W.mg_none_of X G z_enumerate, ⟨tM, PySem.W.mg_of X G c_tM⟩, hlong, ⟨tF, PySem.W.mg_of X G c_tF⟩, ⟨tL, PySem.W.mg_of X G c_tL⟩⟩
  have TS : TxtS K mg CS := ⟨⟨pg_s, hd_s, po_s, sa_s⟩, n0_s, n1_s, n2_s, n3_s, PySem.W.mg_of X G aC_s, PySem.W.mg_none_of X G z_enumerate, ⟨tC, PySem.W.mg_of X G c_tC⟩, ⟨tO, PySem.W.mg_of X G c_tO⟩⟩
  have M : Mk K C fr7 := ⟨mk, Ar7, Ir7, kc⟩
  have IC : C8.InsC K C := ⟨⟨pg, hd, po, sa⟩, iha, ihn, iht, ihm, if_pos (beq_self_eq_true _)⟩
  have M_s : Mk K CS fs26 := ⟨mk_s, As26, Is26, kc_s⟩
  have Fa0 := fun_mk (st := s_law_right) La0 Ca0 Ka0
  have Fa1 := fun_mk (st := s_law) La1 Ca1 Ka1
  have Fa2 := fun_mk (st := s_is_integer) La2 Ca2 Ka2
  have Fa3 := fun_mk (st := s_are_gaps) La3 Ca3 Ka3
  have Fa4 := fun_mk (st := s_is_tail) La4 Ca4 Ka4
  have Fa5 := fun_mk (st := s_sums) La5 Ca5 Ka5
  have Fa6 := fun_mk (st := s_power) La6 Ca6 Ka6
  have Fr7 := fun_mk (st := s_Rule_ddinitdd) Lr7 Cr7 Kr7
  have Fr9 := fun_mk (st := s_Rule_first_repeating) Lr9 Cr9 Kr9
  have Fr10 := fun_mk (st := s_Rule_period) Lr10 Cr10 Kr10
  have Fr11 := fun_mk (st := s_Rule_check_attempt) Lr11 Cr11 Kr11
  have Fr12 := fun_mk (st := s_Rule_offset_of) Lr12 Cr12 Kr12
  have Fr13 := fun_mk (st := s_Rule_offset) Lr13 Cr13 Kr13
  have Fa15 := fun_mk (st := s_law_well) La15 Ca15 Ka15
  have Fa16 := fun_mk (st := s_law_mixed) La16 Ca16 Ka16
  have Fa17 := fun_mk (st := s_law_draw) La17 Ca17 Ka17
  have Fa18 := fun_mk (st := s_law_one) La18 Ca18 Ka18
  have Fa19 := fun_mk (st := s_law_gaps) La19 Ca19 Ka19
  have Fa20 := fun_mk (st := s_law_windows) La20 Ca20 Ka20
  have Fa21 := fun_mk (st := s_law_parts) La21 Ca21 Ka21
  have Fa22 := fun_mk (st := s_check_starts) La22 Ca22 Ka22
  have Fa23 := fun_mk (st := s_are_two_integers) La23 Ca23 Ka23
  have Fa24 := fun_mk (st := s_are_slots) La24 Ca24 Ka24
  have Fa25 := fun_mk (st := s_check_outages) La25 Ca25 Ka25
  have Fs26 := fun_mk (st := s_Scene_ddinitdd) Ls26 Cs26 Ks26
  have Fa27 := fun_mk (st := s_first_at_least) La27 Ca27 Ka27
  have Fr28 := fun_mk (st := s_Rule_surely_short) Lr28 Cr28 Kr28
  have Fr29 := fun_mk (st := s_Rule_first_growing) Lr29 Cr29 Kr29
  have Fr30 := fun_mk (st := s_Rule_first_repeated) Lr30 Cr30 Kr30
  have Fr31 := fun_mk (st := s_Rule_first_from) Lr31 Cr31 Kr31
  have Fr32 := fun_mk (st := s_Rule_attempt_at) Lr32 Cr32 Kr32
  have Fa33 := fun_mk (st := s_check_slot) La33 Ca33 Ka33
  have Fa34 := fun_mk (st := s_check_client) La34 Ca34 Ka34
  have Fs35 := fun_mk (st := s_Scene_slot_of) Ls35 Cs35 Ks35
  have Fs36 := fun_mk (st := s_Scene_attempt_in) Ls36 Cs36 Ks36
  have Fs37 := fun_mk (st := s_Scene_outage_at) Ls37 Cs37 Ks37
  have Fa38 := fun_mk (st := s_law_made) La38 Ca38 Ka38
  have Fa39 := fun_mk (st := s_law_far) La39 Ca39 Ka39
  have Fa40 := fun_mk (st := s_law_offsets) La40 Ca40 Ka40
  have Fa41 := fun_mk (st := s_law_slots_right) La41 Ca41 Ka41
  have Fa42 := fun_mk (st := s_law_windows_right) La42 Ca42 Ka42
  have Fa43 := fun_mk (st := s_law_far_right) La43 Ca43 Ka43
  have Fa44 := fun_mk (st := s_law_said) La44 Ca44 Ka44
  have ba0 := Fa0.binds (ps := ["_law_well_here"]) fun _ _ _ _ _ _ us hl => match us, hl with | [_], _ => rfl
  have ga0 := PySem.W.mg_of X G Aa0
  have ba2 := Fa2.binds (ps := ["value"]) fun _ _ _ _ _ _ us hl => match us, hl with | [_], _ => rfl
  have ga2 := PySem.W.mg_of X G Aa2
  have ba3 := Fa3.binds (ps := ["value", "most"]) fun _ _ _ _ _ _ us hl => match us, hl with | [_, _], _ => rfl
  have ga3 := PySem.W.mg_of X G Aa3
  have ba4 := Fa4.binds (ps := ["value", "many"]) fun _ _ _ _ _ _ us hl => match us, hl with | [_, _], _ => rfl
  have ga4 := PySem.W.mg_of X G Aa4
  have ba5 := Fa5.binds (ps := ["gaps"]) fun _ _ _ _ _ _ us hl => match us, hl with | [_], _ => rfl
  have ga5 := PySem.W.mg_of X G Aa5
  have ba6 := Fa6.binds (ps := ["base", "exponent"]) fun _ _ _ _ _ _ us hl => match us, hl with | [_, _], _ => rfl
  have ga6 := PySem.W.mg_of X G Aa6
  have br7 := Fr7.binds (ps := ["self", "gaps", "tail"]) fun _ _ _ _ _ _ us hl => match us, hl with | [_, _, _], _ => rfl
  have er7 : Meth K C "__init__" fr7 := ⟨Ar7, Ir7, Kr7⟩
  have br9 := Fr9.binds (ps := ["self"]) fun _ _ _ _ _ _ us hl => match us, hl with | [_], _ => rfl
  have er9 : Meth K C "first_repeating" fr9 := ⟨Ar9, Ir9, Kr9⟩
  have br10 := Fr10.binds (ps := ["self"]) fun _ _ _ _ _ _ us hl => match us, hl with | [_], _ => rfl
  have er10 : Meth K C "period" fr10 := ⟨Ar10, Ir10, Kr10⟩
  have br11 := Fr11.binds (ps := ["self", "attempt"]) fun _ _ _ _ _ _ us hl => match us, hl with | [_, _], _ => rfl
  have er11 : Meth K C "_check_attempt" fr11 := ⟨Ar11, Ir11, Kr11⟩
  have br12 := Fr12.binds (ps := ["self", "attempt"]) fun _ _ _ _ _ _ us hl => match us, hl with | [_, _], _ => rfl
  have er12 : Meth K C "_offset_of" fr12 := ⟨Ar12, Ir12, Kr12⟩
  have br13 := Fr13.binds (ps := ["self", "attempt"]) fun _ _ _ _ _ _ us hl => match us, hl with | [_, _], _ => rfl
  have er13 : Meth K C "offset" fr13 := ⟨Ar13, Ir13, Kr13⟩
  have ba15 := Fa15.binds (ps := ["_law_cell"]) fun _ _ _ _ _ _ us hl => match us, hl with | [_], _ => rfl
  have ga15 := PySem.W.mg_of X G Aa15
  have ba16 := Fa16.binds (ps := ["_law_cell", "_law_k"]) fun _ _ _ _ _ _ us hl => match us, hl with | [_, _], _ => rfl
  have ga16 := PySem.W.mg_of X G Aa16
  have ba17 := Fa17.binds (ps := ["_law_well_here", "_law_many"]) fun _ _ _ _ _ _ us hl => match us, hl with | [_, _], _ => rfl
  have ga17 := PySem.W.mg_of X G Aa17
  have ba18 := Fa18.binds (ps := ["_law_well_here", "_law_some"]) fun _ _ _ _ _ _ us hl => match us, hl with | [_, _], _ => rfl
  have ga18 := PySem.W.mg_of X G Aa18
  have ba19 := Fa19.binds (ps := ["_law_well_here"]) fun _ _ _ _ _ _ us hl => match us, hl with | [_], _ => rfl
  have ga19 := PySem.W.mg_of X G Aa19
  have ba20 := Fa20.binds (ps := ["_law_well_here"]) fun _ _ _ _ _ _ us hl => match us, hl with | [_], _ => rfl
  have ga20 := PySem.W.mg_of X G Aa20
  have ba21 := Fa21.binds (ps := ["_law_well_here"]) fun _ _ _ _ _ _ us hl => match us, hl with | [_], _ => rfl
  have ga21 := PySem.W.mg_of X G Aa21
  have ba22 := Fa22.binds (ps := ["value", "fewest"]) fun _ _ _ _ _ _ us hl => match us, hl with | [_, _], _ => rfl
  have ga22 := PySem.W.mg_of X G Aa22
  have ba23 := Fa23.binds (ps := ["value"]) fun _ _ _ _ _ _ us hl => match us, hl with | [_], _ => rfl
  have ga23 := PySem.W.mg_of X G Aa23
  have ba24 := Fa24.binds (ps := ["value"]) fun _ _ _ _ _ _ us hl => match us, hl with | [_], _ => rfl
  have ga24 := PySem.W.mg_of X G Aa24
  have ba25 := Fa25.binds (ps := ["value"]) fun _ _ _ _ _ _ us hl => match us, hl with | [_], _ => rfl
  have ga25 := PySem.W.mg_of X G Aa25
  have es26 : Meth K CS "__init__" fs26 := ⟨As26, Is26, Ks26⟩
  have ba27 := Fa27.binds (ps := ["offsets", "distance"]) fun _ _ _ _ _ _ us hl => match us, hl with | [_, _], _ => rfl
  have ga27 := PySem.W.mg_of X G Aa27
  have br28 := Fr28.binds (ps := ["self", "way"]) fun _ _ _ _ _ _ us hl => match us, hl with | [_, _], _ => rfl
  have er28 : Meth K C "_surely_short" fr28 := ⟨Ar28, Ir28, Kr28⟩
  have br29 := Fr29.binds (ps := ["self", "distance"]) fun _ _ _ _ _ _ us hl => match us, hl with | [_, _], _ => rfl
  have er29 : Meth K C "_first_growing" fr29 := ⟨Ar29, Ir29, Kr29⟩
  have br30 := Fr30.binds (ps := ["self", "distance"]) fun _ _ _ _ _ _ us hl => match us, hl with | [_, _], _ => rfl
  have er30 : Meth K C "_first_repeated" fr30 := ⟨Ar30, Ir30, Kr30⟩
  have br31 := Fr31.binds (ps := ["self", "distance"]) fun _ _ _ _ _ _ us hl => match us, hl with | [_, _], _ => rfl
  have er31 : Meth K C "first_from" fr31 := ⟨Ar31, Ir31, Kr31⟩
  have br32 := Fr32.binds (ps := ["self", "distance"]) fun _ _ _ _ _ _ us hl => match us, hl with | [_, _], _ => rfl
  have er32 : Meth K C "attempt_at" fr32 := ⟨Ar32, Ir32, Kr32⟩
  have ba33 := Fa33.binds (ps := ["slot"]) fun _ _ _ _ _ _ us hl => match us, hl with | [_], _ => rfl
  have ga33 := PySem.W.mg_of X G Aa33
  have ba34 := Fa34.binds (ps := ["client", "many"]) fun _ _ _ _ _ _ us hl => match us, hl with | [_, _], _ => rfl
  have ga34 := PySem.W.mg_of X G Aa34
  have bs35 := Fs35.binds (ps := ["self", "client", "attempt"]) fun _ _ _ _ _ _ us hl => match us, hl with | [_, _, _], _ => rfl
  have es35 : Meth K CS "slot_of" fs35 := ⟨As35, Is35, Ks35⟩
  have bs36 := Fs36.binds (ps := ["self", "client", "slot"]) fun _ _ _ _ _ _ us hl => match us, hl with | [_, _, _], _ => rfl
  have es36 : Meth K CS "attempt_in" fs36 := ⟨As36, Is36, Ks36⟩
  have bs37 := Fs37.binds (ps := ["self", "slot"]) fun _ _ _ _ _ _ us hl => match us, hl with | [_, _], _ => rfl
  have es37 : Meth K CS "outage_at" fs37 := ⟨As37, Is37, Ks37⟩
  have ba38 := Fa38.binds (ps := ["_law_parts_here"]) fun _ _ _ _ _ _ us hl => match us, hl with | [_], _ => rfl
  have ga38 := PySem.W.mg_of X G Aa38
  have ba39 := Fa39.binds (ps := ["_law_parts_here", "_law_factor", "_law_shift"]) fun _ _ _ _ _ _ us hl => match us, hl with | [_, _, _], _ => rfl
  have ga39 := PySem.W.mg_of X G Aa39
  have ba40 := Fa40.binds (ps := ["_law_steps", "_law_ending", "_law_most"]) fun _ _ _ _ _ _ us hl => match us, hl with | [_, _, _], _ => rfl
  have ga40 := PySem.W.mg_of X G Aa40
  have ba41 := Fa41.binds (ps := ["_law_made_here", "_law_begins", "_law_offsets_here", "_law_client"]) fun _ _ _ _ _ _ us hl => match us, hl with | [_, _, _, _], _ => rfl
  have ga41 := PySem.W.mg_of X G Aa41
  have ba42 := Fa42.binds (ps := ["_law_made_here", "_law_windows_here"]) fun _ _ _ _ _ _ us hl => match us, hl with | [_, _], _ => rfl
  have ga42 := PySem.W.mg_of X G Aa42
  have ba43 := Fa43.binds (ps := ["_law_well_here", "_law_made_here", "_law_parts_here", "_law_client"]) fun _ _ _ _ _ _ us hl => match us, hl with | [_, _, _, _], _ => rfl
  have ga43 := PySem.W.mg_of X G Aa43
  have ba44 := Fa44.binds (ps := ["_law_ask"]) fun _ _ _ _ _ _ us hl => match us, hl with | [_], _ => rfl
  have ga44 := PySem.W.mg_of X G Aa44
  have E_e0 := et_InvalidAttempt X G aC_e0 xL_e0 sa_e0 ga_e0 gg_e0 n0_e0 ov_e0 k0_e0 a1_e0 t1_e0 l1_e0 c1_e0 kC_e0 eC_e0 tC_e0 hC_e0 ca_e0 cn_e0 ct2_e0 cm_e0
  have E_e1 := et_LimitExceeded X G aC_e1 xL_e1 sa_e1 ga_e1 gg_e1 n0_e1 ov_e1 k0_e1 a1_e1 t1_e1 l1_e1 c1_e1 kC_e1 eC_e1 tC_e1 hC_e1 ca_e1 cn_e1 ct2_e1 cm_e1
  have E_e2 := et_InvalidSlot X G aC_e2 xL_e2 sa_e2 ga_e2 gg_e2 n0_e2 ov_e2 k0_e2 a1_e2 t1_e2 l1_e2 c1_e2 kC_e2 eC_e2 tC_e2 hC_e2 ca_e2 cn_e2 ct2_e2 cm_e2
  have E_e3 := et_InvalidClient X G aC_e3 xL_e3 sa_e3 ga_e3 gg_e3 n0_e3 ov_e3 k0_e3 a1_e3 t1_e3 l1_e3 c1_e3 kC_e3 eC_e3 tC_e3 hC_e3 ca_e3 cn_e3 ct2_e3 cm_e3
  have XErs : Ers K mg C_e0 f_e0 C_e1 f_e1 := ⟨E_e0.1, E_e1.1⟩
  have TX : SaidTxt mg D_RetryError D_InvalidScene C_e3 C_e2 C_e0 D_InvalidBound C_e1 D_InvalidRule D_InvalidLog D_InvalidReason D_InvalidText := ⟨PySem.W.mg_of X G aD_RetryError, PySem.W.mg_of X G aD_InvalidScene, PySem.W.mg_of X G aC_e3, PySem.W.mg_of X G aC_e2, PySem.W.mg_of X G aC_e0, PySem.W.mg_of X G aD_InvalidBound, PySem.W.mg_of X G aC_e1, PySem.W.mg_of X G aD_InvalidRule, PySem.W.mg_of X G aD_InvalidLog, PySem.W.mg_of X G aD_InvalidReason, PySem.W.mg_of X G aD_InvalidText, PySem.W.mg_none_of X G z_ArithmeticError, PySem.W.mg_none_of X G z_isinstance, PySem.W.mg_none_of X G z_repr⟩
  have kk_0 : ErKind K D_RetryError D_InvalidScene C_e3 C_e2 C_e0 D_InvalidBound C_e1 D_InvalidRule D_InvalidLog D_InvalidReason D_InvalidText C_e0 false false true false := ⟨E_e0.2, exm_own rb_R (by rw [uc_RetryError]; rfl) ut_RetryError rr_0, (kit_own (by rw [uc_InvalidScene]; rfl) ut_InvalidScene rs_0_InvalidScene rq_0_InvalidScene), (kit_own E_e3.2.cl E_e3.1.tyC rs_0_InvalidClient rq_0_InvalidClient), (kit_own E_e2.2.cl E_e2.1.tyC rs_0_InvalidSlot rq_0_InvalidSlot), kit_self, (kit_own (by rw [uc_InvalidBound]; rfl) ut_InvalidBound rs_0_InvalidBound rq_0_InvalidBound), (kit_own E_e1.2.cl E_e1.1.tyC rs_0_LimitExceeded rq_0_LimitExceeded), kit_any4 (kit_own (by rw [uc_InvalidRule]; rfl) ut_InvalidRule rs_0_InvalidRule rq_0_InvalidRule) (kit_own (by rw [uc_InvalidLog]; rfl) ut_InvalidLog rs_0_InvalidLog rq_0_InvalidLog) (kit_own (by rw [uc_InvalidReason]; rfl) ut_InvalidReason rs_0_InvalidReason rq_0_InvalidReason) (kit_own (by rw [uc_InvalidText]; rfl) ut_InvalidText rs_0_InvalidText rq_0_InvalidText), kit_bltn (by decide +kernel) ra_0⟩
  have kk_1 : ErKind K D_RetryError D_InvalidScene C_e3 C_e2 C_e0 D_InvalidBound C_e1 D_InvalidRule D_InvalidLog D_InvalidReason D_InvalidText C_e1 false false false true := ⟨E_e1.2, exm_own rb_R (by rw [uc_RetryError]; rfl) ut_RetryError rr_1, (kit_own (by rw [uc_InvalidScene]; rfl) ut_InvalidScene rs_1_InvalidScene rq_1_InvalidScene), (kit_own E_e3.2.cl E_e3.1.tyC rs_1_InvalidClient rq_1_InvalidClient), (kit_own E_e2.2.cl E_e2.1.tyC rs_1_InvalidSlot rq_1_InvalidSlot), (kit_own E_e0.2.cl E_e0.1.tyC rs_1_InvalidAttempt rq_1_InvalidAttempt), (kit_own (by rw [uc_InvalidBound]; rfl) ut_InvalidBound rs_1_InvalidBound rq_1_InvalidBound), kit_self, kit_any4 (kit_own (by rw [uc_InvalidRule]; rfl) ut_InvalidRule rs_1_InvalidRule rq_1_InvalidRule) (kit_own (by rw [uc_InvalidLog]; rfl) ut_InvalidLog rs_1_InvalidLog rq_1_InvalidLog) (kit_own (by rw [uc_InvalidReason]; rfl) ut_InvalidReason rs_1_InvalidReason rq_1_InvalidReason) (kit_own (by rw [uc_InvalidText]; rfl) ut_InvalidText rs_1_InvalidText rq_1_InvalidText), kit_bltn (by decide +kernel) ra_1⟩
  have kk_2 : ErKind K D_RetryError D_InvalidScene C_e3 C_e2 C_e0 D_InvalidBound C_e1 D_InvalidRule D_InvalidLog D_InvalidReason D_InvalidText C_e2 false true false false := ⟨E_e2.2, exm_own rb_R (by rw [uc_RetryError]; rfl) ut_RetryError rr_2, (kit_own (by rw [uc_InvalidScene]; rfl) ut_InvalidScene rs_2_InvalidScene rq_2_InvalidScene), (kit_own E_e3.2.cl E_e3.1.tyC rs_2_InvalidClient rq_2_InvalidClient), kit_self, (kit_own E_e0.2.cl E_e0.1.tyC rs_2_InvalidAttempt rq_2_InvalidAttempt), (kit_own (by rw [uc_InvalidBound]; rfl) ut_InvalidBound rs_2_InvalidBound rq_2_InvalidBound), (kit_own E_e1.2.cl E_e1.1.tyC rs_2_LimitExceeded rq_2_LimitExceeded), kit_any4 (kit_own (by rw [uc_InvalidRule]; rfl) ut_InvalidRule rs_2_InvalidRule rq_2_InvalidRule) (kit_own (by rw [uc_InvalidLog]; rfl) ut_InvalidLog rs_2_InvalidLog rq_2_InvalidLog) (kit_own (by rw [uc_InvalidReason]; rfl) ut_InvalidReason rs_2_InvalidReason rq_2_InvalidReason) (kit_own (by rw [uc_InvalidText]; rfl) ut_InvalidText rs_2_InvalidText rq_2_InvalidText), kit_bltn (by decide +kernel) ra_2⟩
  have kk_3 : ErKind K D_RetryError D_InvalidScene C_e3 C_e2 C_e0 D_InvalidBound C_e1 D_InvalidRule D_InvalidLog D_InvalidReason D_InvalidText C_e3 true false false false := ⟨E_e3.2, exm_own rb_R (by rw [uc_RetryError]; rfl) ut_RetryError rr_3, (kit_own (by rw [uc_InvalidScene]; rfl) ut_InvalidScene rs_3_InvalidScene rq_3_InvalidScene), kit_self, (kit_own E_e2.2.cl E_e2.1.tyC rs_3_InvalidSlot rq_3_InvalidSlot), (kit_own E_e0.2.cl E_e0.1.tyC rs_3_InvalidAttempt rq_3_InvalidAttempt), (kit_own (by rw [uc_InvalidBound]; rfl) ut_InvalidBound rs_3_InvalidBound rq_3_InvalidBound), (kit_own E_e1.2.cl E_e1.1.tyC rs_3_LimitExceeded rq_3_LimitExceeded), kit_any4 (kit_own (by rw [uc_InvalidRule]; rfl) ut_InvalidRule rs_3_InvalidRule rq_3_InvalidRule) (kit_own (by rw [uc_InvalidLog]; rfl) ut_InvalidLog rs_3_InvalidLog rq_3_InvalidLog) (kit_own (by rw [uc_InvalidReason]; rfl) ut_InvalidReason rs_3_InvalidReason rq_3_InvalidReason) (kit_own (by rw [uc_InvalidText]; rfl) ut_InvalidText rs_3_InvalidText rq_3_InvalidText), kit_bltn (by decide +kernel) ra_3⟩
  have hTb : ∀ p ∈ [(coa0, Pta0)], h.get? p.2 = some { cls := .none, data := .fields #[] } ∧ K.lookup p.2 = none ∧ PySem.W.CodeHd h p.1 p.2 := by
    intro p hp
    simp only [List.mem_cons, List.not_mem_nil, or_false] at hp
    rcases hp with rfl
    · exact ⟨hts _ lma0, lna0, PySem.W.codeHd_of_K X lha0⟩
  refine ⟨PySem.W.fnOf "law" "law" (defArgs s_law) (defBody s_law) (defScope s_law) .none kVa1 dca1 pma1 ana1 cda1 cta1, [(coa0, Pta0)], spLawT K [(Pta0, "_law_right.<locals>.<lambda>")], hTb, fun s v => .of_eq rfl, (fun H a ns _ hH hS => ⟨a, ns, rfl, hS, tabs_one (q := "_law_right.<locals>.<lambda>") (hH _ (List.mem_singleton.mpr rfl)), fun _ => rfl⟩), fun base _ _ TBs => ?_⟩
  have TBa0 := TBs (coa0, Pta0) (by simp)
  have G0 := ok_isInt (P := l.prog) (w := w) (base := base) Fa2 T
  have G10 := ok_init (P := l.prog) (w := w) (base := base) Fr7 T Fa2 ba2 ga2 Fa3 ba3 ga3 Fa4 ba4 ga4 Fa5 ba5 ga5
  have G22 := ok_off (P := l.prog) (w := w) (base := base) Fr12 T Fr9 br9 er9 Fr10 br10 er10 Fa6 ba6 ga6
  have G28 := ok_well (P := l.prog) (w := w) (base := base) Fa15 T
  have G30 := ok_mixed (P := l.prog) (w := w) (base := base) Fa16 T
  have G32 := ok_next (P := l.prog) (w := w) (base := base) Fa17 T G30 ba16 ga16 Ka16
  have G34 := ok_one (P := l.prog) (w := w) (base := base) Fa18 T G32 ba17 ga17 Ka17
  have G36 := ok_gps (P := l.prog) (w := w) (base := base) Fa19 T G32 ba17 ga17 Ka17 G34 ba18 ga18 Ka18
  have G38 := ok_win (P := l.prog) (w := w) (base := base) Fa20 T G32 ba17 ga17 Ka17
  have G40 := ok_pts (P := l.prog) (w := w) (base := base) Fa21 T G32 ba17 ga17 Ka17 G34 ba18 ga18 Ka18 G36 ba19 ga19 Ka19 G38 ba20 ga20 Ka20
  have G42 := ok_chS (P := l.prog) (w := w) (base := base) Fa22 T ⟨tC, PySem.W.mg_of X G c_tC⟩ G0 ba2 ga2 Ka2
  have G44 := ok_two (P := l.prog) (w := w) (base := base) Fa23 T G0 ba2 ga2 Ka2
  have G46 := ok_isO (P := l.prog) (w := w) (base := base) Fa24 T G44 ba23 ga23 Ka23
  have G48 := ok_chO (P := l.prog) (w := w) (base := base) Fa25 T TS G46 ba24 ga24 Ka24
  have G50 := ok_sinit (P := l.prog) (w := w) (base := base) Fs26 T TS IC G0 ba2 ga2 Ka2 G42 ba22 ga22 Ka22 G48 ba25 ga25 Ka25
  have G56 := ok_fg (P := l.prog) (w := w) (base := base) Fr29 T Fr28 br28 er28 G22 br12 er12 Fa6 ba6 ga6
  have G58 := ok_frp (P := l.prog) (w := w) (base := base) Fr30 T Fr9 br9 er9 Fr10 br10 er10 Fa27 ba27 ga27
  have G64 := ok_isAny (P := l.prog) (w := w) (base := base) Fa2 T
  have G66 := ok_chkR (P := l.prog) (w := w) (base := base) Fr11 T XErs Fa2 ba2 ga2
  have G68 := ok_offsetR (P := l.prog) (w := w) (base := base) Fr13 T er11 br11 er12 br12 G66 G22
  have G72 := ok_ffR (P := l.prog) (w := w) (base := base) Fr31 T E_e2.1 Fa2 ba2 ga2 Fa27 ba27 ga27 G56 br29 er29 G58 br30 er30
  have G74 := ok_aaR (P := l.prog) (w := w) (base := base) Fr32 T G72 br31 er31 G22 br12 er12
  have G76 := ok_ckS (P := l.prog) (w := w) (base := base) Fa33 T E_e2.1 G64 ba2 ga2 Ka2
  have G78 := ok_ckC (P := l.prog) (w := w) (base := base) Fa34 T E_e3.1 G64 ba2 ga2 Ka2
  have G80 := ok_slot (P := l.prog) (w := w) (base := base) Fs35 T TS G68 br13 er13 G78 ba34 ga34 Ka34
  have G82 := ok_ain (P := l.prog) (w := w) (base := base) Fs36 T TS G74 br32 er32 G78 ba34 ga34 Ka34 G76 ba33 ga33 Ka33
  have G84 := ok_out (P := l.prog) (w := w) (base := base) Fs37 T TS G76 ba33 ga33 Ka33
  have G86 := ok_made (P := l.prog) (w := w) (base := base) Fa38 T TS M M_s G10 br7 G50 (kb_scene Fs26)
  have G88 := ok_far (P := l.prog) (w := w) (base := base) Fa39 T
  have G90 := ok_ofs (P := l.prog) (w := w) (base := base) Fa40 T
  have G92 := ok_SR (P := l.prog) (w := w) (base := base) Fa41 T TS G80 bs35 es35 G82 bs36 es36
  have G94 := ok_WR (P := l.prog) (w := w) (base := base) Fa42 TS G84 bs37 es37
  have G96 := ok_FQ (P := l.prog) (w := w) (base := base) Fa43 T TS G32 ba17 ga17 Ka17 G80 bs35 es35 G82 bs36 es36
  have G98 := ok_right (P := l.prog) (w := w) (base := base) La0 Ca0 T TS TX kk_3 n0_e3 kk_2 n0_e2 kk_0 n0_e0 kk_1 n0_e1 TBa0 (List.mem_singleton.mpr rfl) (fun p hp _ => by rw [List.mem_singleton.mp hp]) Fa44 ba44 ga44 G88 ba39 ga39 Ka39 G40 ba21 ga21 Ka21 G32 ba17 ga17 Ka17 G86 ba38 ga38 Ka38 G90 ba40 ga40 Ka40 G96 ba43 ga43 Ka43 G92 ba41 ga41 Ka41 G94 ba42 ga42 Ka42 G80 bs35 es35 G82 bs36 es36 G84 bs37 es37
  exact ok_law (P := l.prog) (w := w) (base := base) Fa1 G98 ba0 ga0 Ka0 G28 ba15 ga15 Ka15
theorem long_of {p : Program} {mg : Str → Option Value} {h : Heap} (x : PySem.W.XL p [("_LONGEST_GAP", .int 1000000000000)] mg h) : ∃ t, mg "_LONGEST_GAP" = some (.int 1000000000000 t) := by
  obtain ⟨v, e, r⟩ := x.2.val _ (List.mem_singleton.mpr rfl)
  cases r
  exact ⟨_, e⟩
end RS
open PySem PySem.W PyProof.Rows
set_option maxRecDepth 100000 in
set_option maxHeartbeats 0 in
theorem PySem.Challenge.cw_retryslots_k23_places_of_attempts_holds : PySem.Challenge.rw_retryslots_k23_places_of_attempts.Holds := by
  w_on; o_law; k_head; (case hw => w_witness2)
  k_fill
  refine LamX.walk_calm (l := PySem.Challenge.rw_retryslots_k23_places_of_attempts) (n := 63) (k := 11) (x := "_law_script") rfl (by decide) rfl ⟨rfl, by decide, by decide⟩ (fun w h Y => PySem.W.km_in_of Y) ?F
  case F =>
    intro w mg fa h Y KX G hmg XX
    refine' RS.all_mk (fun P hP => PySem.W.km_tabs_of Y P hP) KX G hmg (RS.long_of XX) ?Aa0 ?La0 ?Ca0 ?Ka0 ?lca0 ?lta0 ?lha0 ?lna0 ?lma0 ?Aa1 ?La1 ?Ca1 ?Ka1 ?Aa2 ?La2 ?Ca2 ?Ka2 ?Aa3 ?La3 ?Ca3 ?Ka3 ?Aa4 ?La4 ?Ca4 ?Ka4 ?Aa5 ?La5 ?Ca5 ?Ka5 ?Aa6 ?La6 ?Ca6 ?Ka6 ?Ar7 ?Ir7 ?Lr7 ?Cr7 ?Kr7 ?Ar9 ?Ir9 ?Lr9 ?Cr9 ?Kr9 ?Ar10 ?Ir10 ?Lr10 ?Cr10 ?Kr10 ?Ar11 ?Ir11 ?Lr11 ?Cr11 ?Kr11 ?Ar12 ?Ir12 ?Lr12 ?Cr12 ?Kr12 ?Ar13 ?Ir13 ?Lr13 ?Cr13 ?Kr13 ?Aa15 ?La15 ?Ca15 ?Ka15 ?Aa16 ?La16 ?Ca16 ?Ka16 ?Aa17 ?La17 ?Ca17 ?Ka17 ?Aa18 ?La18 ?Ca18 ?Ka18 ?Aa19 ?La19 ?Ca19 ?Ka19 ?Aa20 ?La20 ?Ca20 ?Ka20 ?Aa21 ?La21 ?Ca21 ?Ka21 ?Aa22 ?La22 ?Ca22 ?Ka22 ?Aa23 ?La23 ?Ca23 ?Ka23 ?Aa24 ?La24 ?Ca24 ?Ka24 ?Aa25 ?La25 ?Ca25 ?Ka25 ?As26 ?Is26 ?Ls26 ?Cs26 ?Ks26 ?Aa27 ?La27 ?Ca27 ?Ka27 ?Ar28 ?Ir28 ?Lr28 ?Cr28 ?Kr28 ?Ar29 ?Ir29 ?Lr29 ?Cr29 ?Kr29 ?Ar30 ?Ir30 ?Lr30 ?Cr30 ?Kr30 ?Ar31 ?Ir31 ?Lr31 ?Cr31 ?Kr31 ?Ar32 ?Ir32 ?Lr32 ?Cr32 ?Kr32 ?Aa33 ?La33 ?Ca33 ?Ka33 ?Aa34 ?La34 ?Ca34 ?Ka34 ?As35 ?Is35 ?Ls35 ?Cs35 ?Ks35 ?As36 ?Is36 ?Ls36 ?Cs36 ?Ks36 ?As37 ?Is37 ?Ls37 ?Cs37 ?Ks37 ?Aa38 ?La38 ?Ca38 ?Ka38 ?Aa39 ?La39 ?Ca39 ?Ka39 ?Aa40 ?La40 ?Ca40 ?Ka40 ?Aa41 ?La41 ?Ca41 ?Ka41 ?Aa42 ?La42 ?Ca42 ?Ka42 ?Aa43 ?La43 ?Ca43 ?Ka43 ?Aa44 ?La44 ?Ca44 ?Ka44 ?aC ?pg ?hd ?po ?sa ?mk ?kc ?n0 ?n1 ?n2 ?iha ?ihm ?aC_s ?pg_s ?hd_s ?po_s ?sa_s ?mk_s ?kc_s ?n0_s ?n1_s ?n2_s ?n3_s ?ihn ?iht ?z_len ?z_isinstance ?z_int ?z_bool ?z_list ?z_tuple ?z_str ?z_all ?z_range ?z_divmod ?z_sum ?z_max ?z_min ?z_sorted ?z_set ?z_any ?z_enumerate ?z_ArithmeticError ?z_repr ?aC_e0 ?xL_e0 ?sa_e0 ?ga_e0 ?gg_e0 ?n0_e0 ?ov_e0 ?k0_e0 ?a1_e0 ?t1_e0 ?l1_e0 ?c1_e0 ?kC_e0 ?eC_e0 ?tC_e0 ?hC_e0 ?ca_e0 ?cn_e0 ?ct2_e0 ?cm_e0 ?aC_e1 ?xL_e1 ?sa_e1 ?ga_e1 ?gg_e1 ?n0_e1 ?ov_e1 ?k0_e1 ?a1_e1 ?t1_e1 ?l1_e1 ?c1_e1 ?kC_e1 ?eC_e1 ?tC_e1 ?hC_e1 ?ca_e1 ?cn_e1 ?ct2_e1 ?cm_e1 ?aC_e2 ?xL_e2 ?sa_e2 ?ga_e2 ?gg_e2 ?n0_e2 ?ov_e2 ?k0_e2 ?a1_e2 ?t1_e2 ?l1_e2 ?c1_e2 ?kC_e2 ?eC_e2 ?tC_e2 ?hC_e2 ?ca_e2 ?cn_e2 ?ct2_e2 ?cm_e2 ?aC_e3 ?xL_e3 ?sa_e3 ?ga_e3 ?gg_e3 ?n0_e3 ?ov_e3 ?k0_e3 ?a1_e3 ?t1_e3 ?l1_e3 ?c1_e3 ?kC_e3 ?eC_e3 ?tC_e3 ?hC_e3 ?ca_e3 ?cn_e3 ?ct2_e3 ?cm_e3 ?aD_RetryError ?uc_RetryError ?ut_RetryError ?aD_InvalidScene ?uc_InvalidScene ?ut_InvalidScene ?aD_InvalidBound ?uc_InvalidBound ?ut_InvalidBound ?aD_InvalidRule ?uc_InvalidRule ?ut_InvalidRule ?aD_InvalidLog ?uc_InvalidLog ?ut_InvalidLog ?aD_InvalidReason ?uc_InvalidReason ?ut_InvalidReason ?aD_InvalidText ?uc_InvalidText ?ut_InvalidText ?rb_R ?rr_0 ?ra_0 ?rs_0_InvalidScene ?rq_0_InvalidScene ?rs_0_InvalidClient ?rq_0_InvalidClient ?rs_0_InvalidSlot ?rq_0_InvalidSlot ?rs_0_InvalidBound ?rq_0_InvalidBound ?rs_0_LimitExceeded ?rq_0_LimitExceeded ?rs_0_InvalidRule ?rq_0_InvalidRule ?rs_0_InvalidLog ?rq_0_InvalidLog ?rs_0_InvalidReason ?rq_0_InvalidReason ?rs_0_InvalidText ?rq_0_InvalidText ?rr_1 ?ra_1 ?rs_1_InvalidScene ?rq_1_InvalidScene ?rs_1_InvalidClient ?rq_1_InvalidClient ?rs_1_InvalidSlot ?rq_1_InvalidSlot ?rs_1_InvalidAttempt ?rq_1_InvalidAttempt ?rs_1_InvalidBound ?rq_1_InvalidBound ?rs_1_InvalidRule ?rq_1_InvalidRule ?rs_1_InvalidLog ?rq_1_InvalidLog ?rs_1_InvalidReason ?rq_1_InvalidReason ?rs_1_InvalidText ?rq_1_InvalidText ?rr_2 ?ra_2 ?rs_2_InvalidScene ?rq_2_InvalidScene ?rs_2_InvalidClient ?rq_2_InvalidClient ?rs_2_InvalidAttempt ?rq_2_InvalidAttempt ?rs_2_InvalidBound ?rq_2_InvalidBound ?rs_2_LimitExceeded ?rq_2_LimitExceeded ?rs_2_InvalidRule ?rq_2_InvalidRule ?rs_2_InvalidLog ?rq_2_InvalidLog ?rs_2_InvalidReason ?rq_2_InvalidReason ?rs_2_InvalidText ?rq_2_InvalidText ?rr_3 ?ra_3 ?rs_3_InvalidScene ?rq_3_InvalidScene ?rs_3_InvalidSlot ?rq_3_InvalidSlot ?rs_3_InvalidAttempt ?rq_3_InvalidAttempt ?rs_3_InvalidBound ?rq_3_InvalidBound ?rs_3_LimitExceeded ?rq_3_LimitExceeded ?rs_3_InvalidRule ?rq_3_InvalidRule ?rs_3_InvalidLog ?rq_3_InvalidLog ?rs_3_InvalidReason ?rq_3_InvalidReason ?rs_3_InvalidText ?rq_3_InvalidText ?c_tM ?c_tF ?c_tL ?c_tC ?c_tO
    (case aC => first | k_is | kx_is | decide)
    (case aC_s => first | k_is | kx_is | decide)
    (case aC_e0 => first | k_is | kx_is | decide)
    (case aC_e1 => first | k_is | kx_is | decide)
    (case aC_e2 => first | k_is | kx_is | decide)
    (case aC_e3 => first | k_is | kx_is | decide)
    (case aD_RetryError => first | k_is | kx_is | decide)
    (case aD_InvalidScene => first | k_is | kx_is | decide)
    (case aD_InvalidBound => first | k_is | kx_is | decide)
    (case aD_InvalidRule => first | k_is | kx_is | decide)
    (case aD_InvalidLog => first | k_is | kx_is | decide)
    (case aD_InvalidReason => first | k_is | kx_is | decide)
    (case aD_InvalidText => first | k_is | kx_is | decide)
    (case Aa0 => first | k_is | kx_is | decide)
    (case La0 => first | k_is | kx_is | decide)
    (case Ca0 => first | k_is | kx_is | decide)
    (case Ka0 => first | k_is | kx_is | decide)
    (case lca0 => first | k_is | kx_is | decide)
    (case lta0 => exact rfl)
    (case lha0 => kernel_rfl)
    (case lna0 => kernel_rfl)
    (case lma0 => decide)
    (case Aa1 => first | k_is | kx_is | decide)
    (case La1 => first | k_is | kx_is | decide)
    (case Ca1 => first | k_is | kx_is | decide)
    (case Ka1 => first | k_is | kx_is | decide)
    (case Aa2 => first | k_is | kx_is | decide)
    (case La2 => first | k_is | kx_is | decide)
    (case Ca2 => first | k_is | kx_is | decide)
    (case Ka2 => first | k_is | kx_is | decide)
    (case Aa3 => first | k_is | kx_is | decide)
    (case La3 => first | k_is | kx_is | decide)
    (case Ca3 => first | k_is | kx_is | decide)
    (case Ka3 => first | k_is | kx_is | decide)
    (case Aa4 => first | k_is | kx_is | decide)
    (case La4 => first | k_is | kx_is | decide)
    (case Ca4 => first | k_is | kx_is | decide)
    (case Ka4 => first | k_is | kx_is | decide)
    (case Aa5 => first | k_is | kx_is | decide)
    (case La5 => first | k_is | kx_is | decide)
    (case Ca5 => first | k_is | kx_is | decide)
    (case Ka5 => first | k_is | kx_is | decide)
    (case Aa6 => first | k_is | kx_is | decide)
    (case La6 => first | k_is | kx_is | decide)
    (case Ca6 => first | k_is | kx_is | decide)
    (case Ka6 => first | k_is | kx_is | decide)
    (case Ar7 => first | k_is | kx_is | decide)
    (case Ir7 => first | k_is | kx_is | decide)
    (case Lr7 => first | k_is | kx_is | decide)
    (case Cr7 => first | k_is | kx_is | decide)
    (case Kr7 => first | k_is | kx_is | decide)
    (case Ar9 => first | k_is | kx_is | decide)
    (case Ir9 => first | k_is | kx_is | decide)
    (case Lr9 => first | k_is | kx_is | decide)
    (case Cr9 => first | k_is | kx_is | decide)
    (case Kr9 => first | k_is | kx_is | decide)
    (case Ar10 => first | k_is | kx_is | decide)
    (case Ir10 => first | k_is | kx_is | decide)
    (case Lr10 => first | k_is | kx_is | decide)
    (case Cr10 => first | k_is | kx_is | decide)
    (case Kr10 => first | k_is | kx_is | decide)
    (case Ar11 => first | k_is | kx_is | decide)
    (case Ir11 => first | k_is | kx_is | decide)
    (case Lr11 => first | k_is | kx_is | decide)
    (case Cr11 => first | k_is | kx_is | decide)
    (case Kr11 => first | k_is | kx_is | decide)
    (case Ar12 => first | k_is | kx_is | decide)
    (case Ir12 => first | k_is | kx_is | decide)
    (case Lr12 => first | k_is | kx_is | decide)
    (case Cr12 => first | k_is | kx_is | decide)
    (case Kr12 => first | k_is | kx_is | decide)
    (case Ar13 => first | k_is | kx_is | decide)
    (case Ir13 => first | k_is | kx_is | decide)
    (case Lr13 => first | k_is | kx_is | decide)
    (case Cr13 => first | k_is | kx_is | decide)
    (case Kr13 => first | k_is | kx_is | decide)
    (case Aa15 => first | k_is | kx_is | decide)
    (case La15 => first | k_is | kx_is | decide)
    (case Ca15 => first | k_is | kx_is | decide)
    (case Ka15 => first | k_is | kx_is | decide)
    (case Aa16 => first | k_is | kx_is | decide)
    (case La16 => first | k_is | kx_is | decide)
    (case Ca16 => first | k_is | kx_is | decide)
    (case Ka16 => first | k_is | kx_is | decide)
    (case Aa17 => first | k_is | kx_is | decide)
    (case La17 => first | k_is | kx_is | decide)
    (case Ca17 => first | k_is | kx_is | decide)
    (case Ka17 => first | k_is | kx_is | decide)
    (case Aa18 => first | k_is | kx_is | decide)
    (case La18 => first | k_is | kx_is | decide)
    (case Ca18 => first | k_is | kx_is | decide)
    (case Ka18 => first | k_is | kx_is | decide)
    (case Aa19 => first | k_is | kx_is | decide)
    (case La19 => first | k_is | kx_is | decide)
    (case Ca19 => first | k_is | kx_is | decide)
    (case Ka19 => first | k_is | kx_is | decide)
    (case Aa20 => first | k_is | kx_is | decide)
    (case La20 => first | k_is | kx_is | decide)
    (case Ca20 => first | k_is | kx_is | decide)
    (case Ka20 => first | k_is | kx_is | decide)
    (case Aa21 => first | k_is | kx_is | decide)
    (case La21 => first | k_is | kx_is | decide)
    (case Ca21 => first | k_is | kx_is | decide)
    (case Ka21 => first | k_is | kx_is | decide)
    (case Aa22 => first | k_is | kx_is | decide)
    (case La22 => first | k_is | kx_is | decide)
    (case Ca22 => first | k_is | kx_is | decide)
    (case Ka22 => first | k_is | kx_is | decide)
    (case Aa23 => first | k_is | kx_is | decide)
    (case La23 => first | k_is | kx_is | decide)
    (case Ca23 => first | k_is | kx_is | decide)
    (case Ka23 => first | k_is | kx_is | decide)
    (case Aa24 => first | k_is | kx_is | decide)
    (case La24 => first | k_is | kx_is | decide)
    (case Ca24 => first | k_is | kx_is | decide)
    (case Ka24 => first | k_is | kx_is | decide)
    (case Aa25 => first | k_is | kx_is | decide)
    (case La25 => first | k_is | kx_is | decide)
    (case Ca25 => first | k_is | kx_is | decide)
    (case Ka25 => first | k_is | kx_is | decide)
    (case As26 => first | k_is | kx_is | decide)
    (case Is26 => first | k_is | kx_is | decide)
    (case Ls26 => first | k_is | kx_is | decide)
    (case Cs26 => first | k_is | kx_is | decide)
    (case Ks26 => first | k_is | kx_is | decide)
    (case Aa27 => first | k_is | kx_is | decide)
    (case La27 => first | k_is | kx_is | decide)
    (case Ca27 => first | k_is | kx_is | decide)
    (case Ka27 => first | k_is | kx_is | decide)
    (case Ar28 => first | k_is | kx_is | decide)
    (case Ir28 => first | k_is | kx_is | decide)
    (case Lr28 => first | k_is | kx_is | decide)
    (case Cr28 => first | k_is | kx_is | decide)
    (case Kr28 => first | k_is | kx_is | decide)
    (case Ar29 => first | k_is | kx_is | decide)
    (case Ir29 => first | k_is | kx_is | decide)
    (case Lr29 => first | k_is | kx_is | decide)
    (case Cr29 => first | k_is | kx_is | decide)
    (case Kr29 => first | k_is | kx_is | decide)
    (case Ar30 => first | k_is | kx_is | decide)
    (case Ir30 => first | k_is | kx_is | decide)
    (case Lr30 => first | k_is | kx_is | decide)
    (case Cr30 => first | k_is | kx_is | decide)
    (case Kr30 => first | k_is | kx_is | decide)
    (case Ar31 => first | k_is | kx_is | decide)
    (case Ir31 => first | k_is | kx_is | decide)
    (case Lr31 => first | k_is | kx_is | decide)
    (case Cr31 => first | k_is | kx_is | decide)
    (case Kr31 => first | k_is | kx_is | decide)
    (case Ar32 => first | k_is | kx_is | decide)
    (case Ir32 => first | k_is | kx_is | decide)
    (case Lr32 => first | k_is | kx_is | decide)
    (case Cr32 => first | k_is | kx_is | decide)
    (case Kr32 => first | k_is | kx_is | decide)
    (case Aa33 => first | k_is | kx_is | decide)
    (case La33 => first | k_is | kx_is | decide)
    (case Ca33 => first | k_is | kx_is | decide)
    (case Ka33 => first | k_is | kx_is | decide)
    (case Aa34 => first | k_is | kx_is | decide)
    (case La34 => first | k_is | kx_is | decide)
    (case Ca34 => first | k_is | kx_is | decide)
    (case Ka34 => first | k_is | kx_is | decide)
    (case As35 => first | k_is | kx_is | decide)
    (case Is35 => first | k_is | kx_is | decide)
    (case Ls35 => first | k_is | kx_is | decide)
    (case Cs35 => first | k_is | kx_is | decide)
    (case Ks35 => first | k_is | kx_is | decide)
    (case As36 => first | k_is | kx_is | decide)
    (case Is36 => first | k_is | kx_is | decide)
    (case Ls36 => first | k_is | kx_is | decide)
    (case Cs36 => first | k_is | kx_is | decide)
    (case Ks36 => first | k_is | kx_is | decide)
    (case As37 => first | k_is | kx_is | decide)
    (case Is37 => first | k_is | kx_is | decide)
    (case Ls37 => first | k_is | kx_is | decide)
    (case Cs37 => first | k_is | kx_is | decide)
    (case Ks37 => first | k_is | kx_is | decide)
    (case Aa38 => first | k_is | kx_is | decide)
    (case La38 => first | k_is | kx_is | decide)
    (case Ca38 => first | k_is | kx_is | decide)
    (case Ka38 => first | k_is | kx_is | decide)
    (case Aa39 => first | k_is | kx_is | decide)
    (case La39 => first | k_is | kx_is | decide)
    (case Ca39 => first | k_is | kx_is | decide)
    (case Ka39 => first | k_is | kx_is | decide)
    (case Aa40 => first | k_is | kx_is | decide)
    (case La40 => first | k_is | kx_is | decide)
    (case Ca40 => first | k_is | kx_is | decide)
    (case Ka40 => first | k_is | kx_is | decide)
    (case Aa41 => first | k_is | kx_is | decide)
    (case La41 => first | k_is | kx_is | decide)
    (case Ca41 => first | k_is | kx_is | decide)
    (case Ka41 => first | k_is | kx_is | decide)
    (case Aa42 => first | k_is | kx_is | decide)
    (case La42 => first | k_is | kx_is | decide)
    (case Ca42 => first | k_is | kx_is | decide)
    (case Ka42 => first | k_is | kx_is | decide)
    (case Aa43 => first | k_is | kx_is | decide)
    (case La43 => first | k_is | kx_is | decide)
    (case Ca43 => first | k_is | kx_is | decide)
    (case Ka43 => first | k_is | kx_is | decide)
    (case Aa44 => first | k_is | kx_is | decide)
    (case La44 => first | k_is | kx_is | decide)
    (case Ca44 => first | k_is | kx_is | decide)
    (case Ka44 => first | k_is | kx_is | decide)
    (case pg => first | k_is | kx_is | decide)
    (case hd => first | k_is | kx_is | decide)
    (case po => first | k_is | kx_is | decide)
    (case sa => first | k_is | kx_is | decide)
    (case mk => first | k_is | kx_is | decide)
    (case kc => first | k_is | kx_is | decide)
    (case n0 => first | k_is | kx_is | decide)
    (case n1 => first | k_is | kx_is | decide)
    (case n2 => first | k_is | kx_is | decide)
    (case iha => first | k_is | kx_is | decide)
    (case ihm => first | k_is | kx_is | decide)
    (case pg_s => first | k_is | kx_is | decide)
    (case hd_s => first | k_is | kx_is | decide)
    (case po_s => first | k_is | kx_is | decide)
    (case sa_s => first | k_is | kx_is | decide)
    (case mk_s => first | k_is | kx_is | decide)
    (case kc_s => first | k_is | kx_is | decide)
    (case n0_s => first | k_is | kx_is | decide)
    (case n1_s => first | k_is | kx_is | decide)
    (case n2_s => first | k_is | kx_is | decide)
    (case n3_s => first | k_is | kx_is | decide)
    (case ihn => first | k_is | kx_is | decide)
    (case iht => first | k_is | kx_is | decide)
    (case z_len => k_is)
    (case z_isinstance => k_is)
    (case z_int => k_is)
    (case z_bool => k_is)
    (case z_list => k_is)
    (case z_tuple => k_is)
    (case z_str => k_is)
    (case z_all => k_is)
    (case z_range => k_is)
    (case z_divmod => k_is)
    (case z_sum => k_is)
    (case z_max => k_is)
    (case z_min => k_is)
    (case z_sorted => k_is)
    (case z_set => k_is)
    (case z_any => k_is)
    (case z_enumerate => k_is)
    (case z_ArithmeticError => k_is)
    (case z_repr => k_is)
    (case xL_e0 => first | k_is | kx_is | decide)
    (case sa_e0 => first | k_is | kx_is | decide)
    (case ga_e0 => first | k_is | kx_is | decide)
    (case gg_e0 => first | k_is | kx_is | decide)
    (case n0_e0 => first | k_is | kx_is | decide)
    (case ov_e0 => first | k_is | kx_is | decide)
    (case k0_e0 => first | k_is | kx_is | decide)
    (case a1_e0 => first | k_is | kx_is | decide)
    (case t1_e0 => first | k_is | kx_is | decide)
    (case l1_e0 => first | k_is | kx_is | decide)
    (case c1_e0 => first | k_is | kx_is | decide)
    (case kC_e0 => first | k_is | kx_is | decide)
    (case eC_e0 => first | k_is | kx_is | decide)
    (case tC_e0 => first | k_is | kx_is | decide)
    (case hC_e0 => first | k_is | kx_is | decide)
    (case ca_e0 => first | k_is | kx_is | decide)
    (case cn_e0 => first | k_is | kx_is | decide)
    (case ct2_e0 => first | k_is | kx_is | decide)
    (case cm_e0 => first | k_is | kx_is | decide)
    (case xL_e1 => first | k_is | kx_is | decide)
    (case sa_e1 => first | k_is | kx_is | decide)
    (case ga_e1 => first | k_is | kx_is | decide)
    (case gg_e1 => first | k_is | kx_is | decide)
    (case n0_e1 => first | k_is | kx_is | decide)
    (case ov_e1 => first | k_is | kx_is | decide)
    (case k0_e1 => first | k_is | kx_is | decide)
    (case a1_e1 => first | k_is | kx_is | decide)
    (case t1_e1 => first | k_is | kx_is | decide)
    (case l1_e1 => first | k_is | kx_is | decide)
    (case c1_e1 => first | k_is | kx_is | decide)
    (case kC_e1 => first | k_is | kx_is | decide)
    (case eC_e1 => first | k_is | kx_is | decide)
    (case tC_e1 => first | k_is | kx_is | decide)
    (case hC_e1 => first | k_is | kx_is | decide)
    (case ca_e1 => first | k_is | kx_is | decide)
    (case cn_e1 => first | k_is | kx_is | decide)
    (case ct2_e1 => first | k_is | kx_is | decide)
    (case cm_e1 => first | k_is | kx_is | decide)
    (case xL_e2 => first | k_is | kx_is | decide)
    (case sa_e2 => first | k_is | kx_is | decide)
    (case ga_e2 => first | k_is | kx_is | decide)
    (case gg_e2 => first | k_is | kx_is | decide)
    (case n0_e2 => first | k_is | kx_is | decide)
    (case ov_e2 => first | k_is | kx_is | decide)
    (case k0_e2 => first | k_is | kx_is | decide)
    (case a1_e2 => first | k_is | kx_is | decide)
    (case t1_e2 => first | k_is | kx_is | decide)
    (case l1_e2 => first | k_is | kx_is | decide)
    (case c1_e2 => first | k_is | kx_is | decide)
    (case kC_e2 => first | k_is | kx_is | decide)
    (case eC_e2 => first | k_is | kx_is | decide)
    (case tC_e2 => first | k_is | kx_is | decide)
    (case hC_e2 => first | k_is | kx_is | decide)
    (case ca_e2 => first | k_is | kx_is | decide)
    (case cn_e2 => first | k_is | kx_is | decide)
    (case ct2_e2 => first | k_is | kx_is | decide)
    (case cm_e2 => first | k_is | kx_is | decide)
    (case xL_e3 => first | k_is | kx_is | decide)
    (case sa_e3 => first | k_is | kx_is | decide)
    (case ga_e3 => first | k_is | kx_is | decide)
    (case gg_e3 => first | k_is | kx_is | decide)
    (case n0_e3 => first | k_is | kx_is | decide)
    (case ov_e3 => first | k_is | kx_is | decide)
    (case k0_e3 => first | k_is | kx_is | decide)
    (case a1_e3 => first | k_is | kx_is | decide)
    (case t1_e3 => first | k_is | kx_is | decide)
    (case l1_e3 => first | k_is | kx_is | decide)
    (case c1_e3 => first | k_is | kx_is | decide)
    (case kC_e3 => first | k_is | kx_is | decide)
    (case eC_e3 => first | k_is | kx_is | decide)
    (case tC_e3 => first | k_is | kx_is | decide)
    (case hC_e3 => first | k_is | kx_is | decide)
    (case ca_e3 => first | k_is | kx_is | decide)
    (case cn_e3 => first | k_is | kx_is | decide)
    (case ct2_e3 => first | k_is | kx_is | decide)
    (case cm_e3 => first | k_is | kx_is | decide)
    (case uc_RetryError => first | k_is | kx_is | decide)
    (case ut_RetryError => first | k_is | kx_is | decide)
    (case uc_InvalidScene => first | k_is | kx_is | decide)
    (case ut_InvalidScene => first | k_is | kx_is | decide)
    (case uc_InvalidBound => first | k_is | kx_is | decide)
    (case ut_InvalidBound => first | k_is | kx_is | decide)
    (case uc_InvalidRule => first | k_is | kx_is | decide)
    (case ut_InvalidRule => first | k_is | kx_is | decide)
    (case uc_InvalidLog => first | k_is | kx_is | decide)
    (case ut_InvalidLog => first | k_is | kx_is | decide)
    (case uc_InvalidReason => first | k_is | kx_is | decide)
    (case ut_InvalidReason => first | k_is | kx_is | decide)
    (case uc_InvalidText => first | k_is | kx_is | decide)
    (case ut_InvalidText => first | k_is | kx_is | decide)
    (case rb_R => first | k_is | kx_is | decide)
    (case rr_0 => first | k_is | kx_is | decide)
    (case ra_0 => first | k_is | kx_is | decide)
    (case rs_0_InvalidScene => first | k_is | kx_is | decide)
    (case rq_0_InvalidScene => first | k_is | kx_is | decide)
    (case rs_0_InvalidClient => first | k_is | kx_is | decide)
    (case rq_0_InvalidClient => first | k_is | kx_is | decide)
    (case rs_0_InvalidSlot => first | k_is | kx_is | decide)
    (case rq_0_InvalidSlot => first | k_is | kx_is | decide)
    (case rs_0_InvalidBound => first | k_is | kx_is | decide)
    (case rq_0_InvalidBound => first | k_is | kx_is | decide)
    (case rs_0_LimitExceeded => first | k_is | kx_is | decide)
    (case rq_0_LimitExceeded => first | k_is | kx_is | decide)
    (case rs_0_InvalidRule => first | k_is | kx_is | decide)
    (case rq_0_InvalidRule => first | k_is | kx_is | decide)
    (case rs_0_InvalidLog => first | k_is | kx_is | decide)
    (case rq_0_InvalidLog => first | k_is | kx_is | decide)
    (case rs_0_InvalidReason => first | k_is | kx_is | decide)
    (case rq_0_InvalidReason => first | k_is | kx_is | decide)
    (case rs_0_InvalidText => first | k_is | kx_is | decide)
    (case rq_0_InvalidText => first | k_is | kx_is | decide)
    (case rr_1 => first | k_is | kx_is | decide)
    (case ra_1 => first | k_is | kx_is | decide)
    (case rs_1_InvalidScene => first | k_is | kx_is | decide)
    (case rq_1_InvalidScene => first | k_is | kx_is | decide)
    (case rs_1_InvalidClient => first | k_is | kx_is | decide)
    (case rq_1_InvalidClient => first | k_is | kx_is | decide)
    (case rs_1_InvalidSlot => first | k_is | kx_is | decide)
    (case rq_1_InvalidSlot => first | k_is | kx_is | decide)
    (case rs_1_InvalidAttempt => first | k_is | kx_is | decide)
    (case rq_1_InvalidAttempt => first | k_is | kx_is | decide)
    (case rs_1_InvalidBound => first | k_is | kx_is | decide)
    (case rq_1_InvalidBound => first | k_is | kx_is | decide)
    (case rs_1_InvalidRule => first | k_is | kx_is | decide)
    (case rq_1_InvalidRule => first | k_is | kx_is | decide)
    (case rs_1_InvalidLog => first | k_is | kx_is | decide)
    (case rq_1_InvalidLog => first | k_is | kx_is | decide)
    (case rs_1_InvalidReason => first | k_is | kx_is | decide)
    (case rq_1_InvalidReason => first | k_is | kx_is | decide)
    (case rs_1_InvalidText => first | k_is | kx_is | decide)
    (case rq_1_InvalidText => first | k_is | kx_is | decide)
    (case rr_2 => first | k_is | kx_is | decide)
    (case ra_2 => first | k_is | kx_is | decide)
    (case rs_2_InvalidScene => first | k_is | kx_is | decide)
    (case rq_2_InvalidScene => first | k_is | kx_is | decide)
    (case rs_2_InvalidClient => first | k_is | kx_is | decide)
    (case rq_2_InvalidClient => first | k_is | kx_is | decide)
    (case rs_2_InvalidAttempt => first | k_is | kx_is | decide)
    (case rq_2_InvalidAttempt => first | k_is | kx_is | decide)
    (case rs_2_InvalidBound => first | k_is | kx_is | decide)
    (case rq_2_InvalidBound => first | k_is | kx_is | decide)
    (case rs_2_LimitExceeded => first | k_is | kx_is | decide)
    (case rq_2_LimitExceeded => first | k_is | kx_is | decide)
    (case rs_2_InvalidRule => first | k_is | kx_is | decide)
    (case rq_2_InvalidRule => first | k_is | kx_is | decide)
    (case rs_2_InvalidLog => first | k_is | kx_is | decide)
    (case rq_2_InvalidLog => first | k_is | kx_is | decide)
    (case rs_2_InvalidReason => first | k_is | kx_is | decide)
    (case rq_2_InvalidReason => first | k_is | kx_is | decide)
    (case rs_2_InvalidText => first | k_is | kx_is | decide)
    (case rq_2_InvalidText => first | k_is | kx_is | decide)
    (case rr_3 => first | k_is | kx_is | decide)
    (case ra_3 => first | k_is | kx_is | decide)
    (case rs_3_InvalidScene => first | k_is | kx_is | decide)
    (case rq_3_InvalidScene => first | k_is | kx_is | decide)
    (case rs_3_InvalidSlot => first | k_is | kx_is | decide)
    (case rq_3_InvalidSlot => first | k_is | kx_is | decide)
    (case rs_3_InvalidAttempt => first | k_is | kx_is | decide)
    (case rq_3_InvalidAttempt => first | k_is | kx_is | decide)
    (case rs_3_InvalidBound => first | k_is | kx_is | decide)
    (case rq_3_InvalidBound => first | k_is | kx_is | decide)
    (case rs_3_LimitExceeded => first | k_is | kx_is | decide)
    (case rq_3_LimitExceeded => first | k_is | kx_is | decide)
    (case rs_3_InvalidRule => first | k_is | kx_is | decide)
    (case rq_3_InvalidRule => first | k_is | kx_is | decide)
    (case rs_3_InvalidLog => first | k_is | kx_is | decide)
    (case rq_3_InvalidLog => first | k_is | kx_is | decide)
    (case rs_3_InvalidReason => first | k_is | kx_is | decide)
    (case rq_3_InvalidReason => first | k_is | kx_is | decide)
    (case rs_3_InvalidText => first | k_is | kx_is | decide)
    (case rq_3_InvalidText => first | k_is | kx_is | decide)
    (case c_tM => first | k_is | kx_is | decide)
    (case c_tF => first | k_is | kx_is | decide)
    (case c_tL => first | k_is | kx_is | decide)
    (case c_tC => first | k_is | kx_is | decide)
    (case c_tO => first | k_is | kx_is | decide)

import PyProof.Rows.All
import Wide.All
import OpenK.AllK
import Wide.FinOn
import HandS.ForMost
import HandS.Evl
import HandS.Wide
import HandS.WideBits
import HandS.IsInst
import KE.KEqDeep
import KE.KMinKey
import HandS.Codes
import HandS.OwnEq
import PyProof.InstNe
import HandS.MakeKwOnly
import HandS.SortKw
import HandS.Defaults
import HandS.Exc
import HandS.TryOnly
import HandS.TryMany
import HandS.ExcOwn
import HandS.WordsExc
import HandS.More
import HandS.Lambda
import KE.KExcIs
import HandS.HotCalls
import HandS.ExcInit
import KE.KExcInit
import HandS.Walk
import HandS.Flow
import HandS.Style
import HandS.Star
import HandS.Iter
import PyProof.ReprRoads
import HandS.EndTab
import KE.DataFind
import HandS.SetFor
import HandS.Strs
import HandS.SortInts
import HandS.Conv
import HandS.SetKeys
import KE.DataMinMax
import KE.SortData
import HandS.NoneIn
import HandS.WordsDict
import KE.KDictSum
import HandS.ExcValue
import HandS.DictComp
import HandS.ListItems
import HandS.SortRule
import HandS.SortOrd
import KE.DataCmp
import PySem.Challenge.RW_retryslots_k33_whole_long_rules_that_rep
set_option Elab.async false
set_option maxRecDepth 100000
set_option maxHeartbeats 2000000
namespace RS
open PySem L2
def top (i : Nat) : Stmt := PySem.Challenge.pw_retryslots_k33_whole_long_rules_that_rep.main.body.getD i (.Pass ⟨0, 0, 0, 0⟩)
abbrev s_wall : Stmt := top 1
abbrev s_InvalidRule_ddinitdd : Stmt := inClass (top 4) 0
abbrev s_InvalidAttempt_ddinitdd : Stmt := inClass (top 5) 0
abbrev s_InvalidSlot_ddinitdd : Stmt := inClass (top 6) 0
abbrev s_InvalidScene_ddinitdd : Stmt := inClass (top 7) 0
abbrev s_InvalidClient_ddinitdd : Stmt := inClass (top 8) 0
abbrev s_LimitExceeded_ddinitdd : Stmt := inClass (top 9) 0
abbrev s_is_integer : Stmt := top 11
abbrev s_check_slot : Stmt := top 15
abbrev s_check_client : Stmt := top 16
abbrev s_check_starts : Stmt := top 17
abbrev s_are_gaps : Stmt := top 18
abbrev s_are_slots : Stmt := top 19
abbrev s_are_two_integers : Stmt := top 20
abbrev s_sums : Stmt := top 22
abbrev s_listed_offsets : Stmt := top 23
abbrev s_repeating_offsets : Stmt := top 24
abbrev s_Rule_ddinitdd : Stmt := inClass (top 29) 0
abbrev s_Rule_ddeqdd : Stmt := inClass (top 29) 1
abbrev s_Rule_gaps : Stmt := inClass (top 29) 2
abbrev s_Rule_tail : Stmt := inClass (top 29) 3
abbrev s_Rule_attempts : Stmt := inClass (top 29) 4
abbrev s_Rule_gap : Stmt := inClass (top 29) 5
abbrev s_Rule_offset : Stmt := inClass (top 29) 6
abbrev s_Rule_first_from : Stmt := inClass (top 29) 7
abbrev s_Rule_attempt_at : Stmt := inClass (top 29) 8
abbrev s_Rule_period : Stmt := inClass (top 29) 9
abbrev s_Rule_least_gap : Stmt := inClass (top 29) 10
abbrev s_Rule_first_repeating : Stmt := inClass (top 29) 11
abbrev s_Rule_offsets_between : Stmt := inClass (top 29) 12
abbrev s_Rule_check_attempt : Stmt := inClass (top 29) 13
abbrev s_Rule_offset_of : Stmt := inClass (top 29) 14
abbrev s_Rule_first_growing : Stmt := inClass (top 29) 15
abbrev s_Rule_surely_short : Stmt := inClass (top 29) 16
abbrev s_Rule_first_repeated : Stmt := inClass (top 29) 17
abbrev s_is_tail : Stmt := top 30
abbrev s_first_at_least : Stmt := top 31
abbrev s_power : Stmt := top 32
abbrev s_Scene_ddinitdd : Stmt := inClass (top 35) 0
abbrev s_Scene_ddeqdd : Stmt := inClass (top 35) 1
abbrev s_Scene_rule : Stmt := inClass (top 35) 2
abbrev s_Scene_starts : Stmt := inClass (top 35) 3
abbrev s_Scene_outages : Stmt := inClass (top 35) 4
abbrev s_Scene_length : Stmt := inClass (top 35) 5
abbrev s_Scene_slot_of : Stmt := inClass (top 35) 6
abbrev s_Scene_attempt_in : Stmt := inClass (top 35) 7
abbrev s_Scene_outage_at : Stmt := inClass (top 35) 8
abbrev s_check_outages : Stmt := top 36
abbrev s_find_services : Stmt := top 38
abbrev s_Course_ddinitdd : Stmt := inClass (top 39) 0
abbrev s_Course_services : Stmt := inClass (top 39) 1
abbrev s_Course_following : Stmt := inClass (top 39) 2
abbrev s_Course_pass_slot : Stmt := inClass (top 39) 3
abbrev s_Course_decide : Stmt := inClass (top 39) 4
abbrev s_SingleGaps_ddinitdd : Stmt := inClass (top 40) 0
abbrev s_SingleGaps_behind : Stmt := inClass (top 40) 1
abbrev s_Loop_ddinitdd : Stmt := inClass (top 41) 0
abbrev s_Loop_begins : Stmt := inClass (top 41) 1
abbrev s_Loop_enter : Stmt := inClass (top 41) 2
abbrev s_Loop_leave : Stmt := inClass (top 41) 3
abbrev s_Loop_clients_in : Stmt := inClass (top 41) 4
abbrev s_Loop_lone_from : Stmt := inClass (top 41) 5
abbrev s_Run_ddinitdd : Stmt := inClass (top 43) 0
abbrev s_Run_scene : Stmt := inClass (top 43) 1
abbrev s_Run_outcome : Stmt := inClass (top 43) 2
abbrev s_Run_outcomes : Stmt := inClass (top 43) 3
abbrev s_Run_order : Stmt := inClass (top 43) 4
abbrev s_Run_active : Stmt := inClass (top 43) 5
abbrev s_Run_attempting : Stmt := inClass (top 43) 6
abbrev s_Run_event : Stmt := inClass (top 43) 7
abbrev s_Run_occupant : Stmt := inClass (top 43) 8
abbrev s_law_mixed : Stmt := top 45
abbrev s_law_well : Stmt := top 46
abbrev s_law_draw : Stmt := top 47
abbrev s_law_one : Stmt := top 48
abbrev s_law_windows : Stmt := top 49
abbrev s_law_made : Stmt := top 50
abbrev s_law_has : Stmt := top 51
abbrev s_law_long : Stmt := top 52
abbrev s_law_residues : Stmt := top 53
abbrev s_law_right : Stmt := top 54
abbrev s_law : Stmt := top 55
/-! ### what the walk asks of the text's top -/
structure Txt (K : PySem.W.Frag) (mg : Str → Option Value) (C : Addr) : Prop where
  cl : Cls K C
  nG : NoAttr K C "_gaps"
  nT : NoAttr K C "_tail"
  nO : NoAttr K C "_offsets"
  mgC : mg "Rule" = some (.ref C)
  len : mg "len" = none
  isi : mg "isinstance" = none
  int : mg "int" = none
  bool : mg "bool" = none
  list : mg "list" = none
  tuple : mg "tuple" = none
  str : mg "str" = none
  all : mg "all" = none
  range : mg "range" = none
  divmod : mg "divmod" = none
  sum : mg "sum" = none
  max : mg "max" = none
  min : mg "min" = none
  sorted : mg "sorted" = none
  set : mg "set" = none
  any : mg "any" = none
  enum : mg "enumerate" = none
  mMost : ∃ t, mg "_MOST_GAPS" = some (.int 20 t)
  mLong : ∃ t, mg "_LONGEST_GAP" = some (.int 1000000000000 t)
  mFact : ∃ t, mg "_GREATEST_FACTOR" = some (.int 1000 t)
  mLast : ∃ t, mg "LAST_GROWING" = some (.int 1000 t)

/-! ### the data -/
/-- a rule's tail -/
inductive Tl where
  | fin
  | times (b : Int)
  | rep (n : Nat)
def Tl.vs : Tl → List V
  | .fin => [.str "end"]
  | .times b => [.str "times", .int b]
  | .rep n => [.str "repeat", .int (n : Int)]
def GapsOk (gs : List Int) : Prop := gs.length ≤ 20 ∧ ∀ g ∈ gs, 1 ≤ g ∧ g ≤ 1000000000000
def TlOk (many : Nat) : Tl → Prop
  | .fin => True
  | .times b => 0 < many ∧ 2 ≤ b ∧ b ≤ 1000
  | .rep n => 1 ≤ n ∧ n ≤ many
/-- the sum of the first k gaps -/
def pre (gs : List Int) (k : Nat) : Int := (gs.take k).sum
def offs (gs : List Int) : List Int := (List.range (gs.length + 1)).map (pre gs)
theorem offs_len (gs : List Int) : (offs gs).length = gs.length + 1 := by simp [offs]
theorem offs_get (gs : List Int) {k : Nat} (h : k ≤ gs.length) : (offs gs)[k]? = some (pre gs k) := by
  unfold offs
  rw [List.getElem?_map, List.getElem?_range (by omega)]
  rfl
theorem pre_zero (gs : List Int) : pre gs 0 = 0 := rfl
theorem pre_succ (gs : List Int) {k : Nat} {g : Int} (h : gs[k]? = some g) : pre gs (k + 1) = pre gs k + g := by
  unfold pre
  rw [List.take_add_one, h, List.sum_append]
  simp
theorem iteFb {b : Bool} {A B : Prop} (e : b = false) (h : B) : if b = true then A else B := by
  rw [e]
  exact iteF h
theorem iteTb {b : Bool} {A B : Prop} (e : b = true) (h : A) : if b = true then A else B := by
  rw [e]
  exact iteT h
theorem yes_t {Q : Bool → Hp → Prop} {σ : L2.St} {H : Hp} (h : Q true H) : tYes σ H Q := h
theorem at_map {xs : List Int} {j : Nat} {v : Int} (h : xs[j]? = some v) : atI (xs.map V.int) (j : Int) = some (.int v) := atI_nat (by rw [List.getElem?_map, h]; rfl)
theorem at_back {α : Type} {xs : List α} {j : Nat} {v : α} (h0 : 0 < j) (hj : j ≤ xs.length) (h : xs[xs.length - j]? = some v) : atI xs (-(j : Int)) = some v := by
  have e : ixN xs.length (-(j : Int)) = some (xs.length - j) := by
    unfold ixN
    rw [if_neg (by omega), if_pos (by omega)]
    congr 1
    omega
  unfold atI
  rw [e]
  exact h
theorem at_back1 {α : Type} {xs : List α} {v : α} (hj : 0 < xs.length) (h : xs[xs.length - 1]? = some v) : atI xs (-1) = some v := at_back (j := 1) (by omega) hj h

section
variable {P : Program} {w : World} {K : PySem.W.Frag} {mg : Str → Option Value} {base : Heap}
/-! ### is_integer -/
def spIsInt : Sp := fun vs H Q _ => ∃ i, vs = [.int i] ∧ Q (.bl true) H
theorem scIsInt : FnScope ["value"] ["value"] (defScope s_is_integer) := ⟨rfl, rfl, rfl, by decide +kernel, rfl, by decide +kernel, by decide +kernel⟩
theorem ok_isInt {f C : Addr} {fd : FuncData} (F : Fun K "is_integer" "is_integer" s_is_integer f fd) (T : Txt K mg C) : FnOk P w K mg base CX0 1 f fd ["value"] spIsInt := by
  refine F.ok scIsInt (fun vs H Q E h => ?_) (fun cdv A outer s H vs Q E hr h => ?_)
  · obtain ⟨i, rfl, _⟩ := h
    rfl
  · obtain ⟨i, rfl, k⟩ := h
    refine ⟨_, pss_one (ps_ret (pe_and (pe_callB call_isi (by rfl) T.isi (by decide +kernel) (pa_cons (pv 0) (pa_cons (pe_bltn (v := .ty "int") (by rfl) T.int (by decide +kernel) rfl) pa_nil))) (pe_one (pe_not (pe_callB call_isi (by rfl) T.isi (by decide +kernel) (pa_cons (pv 0) (pa_cons (pe_bltn (v := .ty "bool") (by rfl) T.bool (by decide +kernel) rfl) pa_nil))))))), ?_⟩
    refine ⟨_, rfl, _, _, _, _, _, rfl, .ty _, .base (.int i), kit_ty (r := true) (by decide +kernel), true, rfl, ?_⟩
    refine iteT ?_
    exact ⟨_, rfl, _, _, _, _, _, rfl, .ty _, .base (.int i), kit_ty (r := false) (by decide +kernel), false, rfl, k⟩

/-! ### _are_gaps -/
def spAreGaps : Sp := fun vs H Q _ => ∃ a gs, ∃ most : Nat, vs = [.ref a, .int (most : Int)] ∧ H a = some (.lst (gs.map V.int)) ∧ GapsOk gs ∧ gs.length ≤ most ∧ ∀ H', Same H H' → Q (.bl true) H'
theorem scAreGaps : FnScope ["value", "most", "gap"] ["value", "most"] (defScope s_are_gaps) := ⟨rfl, rfl, rfl, by decide +kernel, rfl, by decide +kernel, by decide +kernel⟩
theorem ok_areGaps {f C fi : Addr} {fd fdi : FuncData} (F : Fun K "are_gaps" "are_gaps" s_are_gaps f fd) (T : Txt K mg C) (FI : Fun K "is_integer" "is_integer" s_is_integer fi fdi) (bI : Binds K fdi ["value"] []) (mI : mg "is_integer" = some (.ref fi)) : FnOk P w K mg base CX0 2 f fd ["value", "most"] spAreGaps := by
  have GI : FnOk P w K mg base CX0 1 fi fdi ["value"] spIsInt := ok_isInt FI T
  obtain ⟨t2, m2⟩ := T.mLong
  refine F.ok scAreGaps (fun vs H Q E h => ?_) (fun cdv A outer s H vs Q E hr h => ?_)
  · obtain ⟨a, gs, most, rfl, _⟩ := h
    rfl
  · obtain ⟨a, gs, most, rfl, ha, ok, okm, k⟩ := h
    refine ⟨_, (pss_cons (ps_if (PW.pt (pw_or (pt_not (pt_val (pe_callB call_isi (by rfl) T.isi (by decide +kernel) (pa_cons (pv 0) (pa_cons (pe_bltn (v := .ty "list") (by rfl) T.list (by decide +kernel) rfl) pa_nil))))) (pw_or1 (pt_cmpR op_gt (pe_callB call_len_seq (by rfl) T.len (by decide +kernel) (pa_cons (pv 0) pa_nil)) (pv 1) (nomark _))))) (pss_one (ps_ret pe_bl)) pss_nil) (pss_one (ps_ret (pe_callB (cr_all rfl) (by rfl) T.all (by decide +kernel) (pa_cons (pe_lc (own := [("gap", 2)]) (g := gName 2) (tt := tYes) rfl scAreGaps.nd (pi_list (pv 0)) (blkOk_by (own := [("gap", 2)]) (N := ["value", "most", "gap"]) (sc := defScope s_are_gaps) (by decide +kernel))
          (fun _ _ _ _ _ => (pg_name (i := 2) scAreGaps.nd rfl (Or.inl rfl))) (fun _ _ _ _ _ => pts_nil)
          (fun _ _ _ _ _ => pe_and (pe_call GI hr rfl mI FI.kp bI .nil pass0 (pa_cons (pv 2) pa_nil)) (pe_one (pe_chain op_le op_le pe_int (pv 2) (pe_glob (v := .int 1000000000000) rfl m2 ⟨_, rfl⟩))))) pa_nil))))), ?_⟩
    refine ⟨_, rfl, _, _, _, _, _, rfl, .ty _, .base (.lst ha), kit_ty (r := true) (by decide +kernel), true, rfl, ?_⟩
    refine iteF ?_
    refine ⟨_, rfl, a, _, rfl, .inl (SqL.of ha), _, rfl, _, _, rfl, rfl, _, rfl, ?_⟩
    refine iteFb (decide_eq_false (by rw [List.length_map]; omega)) ?_
    refine ⟨_, rfl, a, rfl, ⟨_, SqL.of ha⟩, fun D hD => lc_list (a := a) (xs := gs.map V.int) (fun i H' => Same H H' ∧ H' D = some (.lst ((List.replicate i true).map V.bl))) ⟨?_, upd_same⟩ (fun i H' _ p => p.1.seq (SqL.of ha)) (fun i x H' hx p => ?_) (fun H' p => ?_)⟩
    · intro b o e
      rw [upd_ne (ne_of_none e hD)]
      exact e
    · obtain ⟨g, hg, rfl⟩ : ∃ g, gs[i]? = some g ∧ x = .int g := by
        rw [List.getElem?_map] at hx
        cases e : gs[i]? with
        | none => rw [e] at hx; cases hx
        | some g => rw [e] at hx; exact ⟨g, rfl, (Option.some.inj hx).symm⟩
      have hb := ok.2 g (List.mem_of_getElem? hg)
      have hi : i < gs.length := (List.getElem?_eq_some_iff.mp hg).1
      refine ⟨rfl, ?_⟩
      refine yes_t (iteT ?_)
      refine ⟨_, rfl, g, rfl, true, rfl, iteT ?_⟩
      refine ⟨_, rfl, _, _, rfl, rfl, _, rfl, iteTb (decide_eq_true hb.1) ?_⟩
      refine ⟨_, _, rfl, rfl, _, p.2, ?_, fun b o e => ?_, ?_⟩
      · rw [List.length_map, List.length_replicate]
        exact small1000 (by have := ok.1; omega)
      · rw [upd_ne (ne_of_none e hD)]
        exact p.1 b o e
      · rw [upd_same, List.replicate_succ', List.map_append]
        show some (HO.lst (List.map V.bl (List.replicate i true) ++ [V.bl (decide (g ≤ 1000000000000))])) = _
        rw [decide_eq_true hb.2]
        rfl
    · refine ⟨D, _, rfl, SqL.of p.2, ?_⟩
      have e : (List.replicate (gs.map V.int).length true).all id = true := by
        rw [List.all_eq_true]
        intro x hx
        rw [(List.mem_replicate.mp hx).2]
        rfl
      rw [e]
      exact k H' p.1

/-! ### _is_tail -/
def spIsTail : Sp := fun vs H Q _ => ∃ (t : Addr) (tl : Tl) (n : Nat), vs = [.ref t, .int (n : Int)] ∧ H t = some (.tup tl.vs) ∧ TlOk n tl ∧ ∀ H', Same H H' → Q (.bl true) H'
theorem scIsTail : FnScope ["value", "many"] ["value", "many"] (defScope s_is_tail) := ⟨rfl, rfl, rfl, by decide +kernel, rfl, by decide +kernel, by decide +kernel⟩
theorem same_new {H : Hp} {p : Addr} {o : HO} (h : H p = none) : Same H (upd H p o) := fun b u e => by
  rw [upd_ne (ne_of_none e h)]
  exact e
theorem ok_isTail {f C fi : Addr} {fd fdi : FuncData} (F : Fun K "_is_tail" "_is_tail" s_is_tail f fd) (T : Txt K mg C) (FI : Fun K "is_integer" "is_integer" s_is_integer fi fdi) (bI : Binds K fdi ["value"] []) (mI : mg "is_integer" = some (.ref fi)) : FnOk P w K mg base CX0 2 f fd ["value", "many"] spIsTail := by
  have GI : FnOk P w K mg base CX0 1 fi fdi ["value"] spIsInt := ok_isInt FI T
  obtain ⟨t1, m1⟩ := T.mFact
  refine F.ok scIsTail (fun vs H Q E h => ?_) (fun cdv A outer s H vs Q E hr h => ?_)
  · obtain ⟨t, tl, n, rfl, _⟩ := h
    rfl
  · obtain ⟨t, tl, n, rfl, ht, ok, k⟩ := h
    refine ⟨_, (pss_cons (ps_if (PW.pt (pw_or (pt_not (pt_val (pe_callB call_isi (by rfl) T.isi (by decide +kernel) (pa_cons (pv 0) (pa_cons (pe_bltn (v := .ty "tuple") (by rfl) T.tuple (by decide +kernel) rfl) pa_nil))))) (pw_or1 (pt_cmpR op_notIn_seq (pe_callB call_len_seq (by rfl) T.len (by decide +kernel) (pa_cons (pv 0) pa_nil)) (pe_tup (pa_cons pe_int (pa_cons pe_int pa_nil))) (by rfl))))) (pss_one (ps_ret pe_bl)) pss_nil) (pss_cons (ps_if (pt_not (pt_val (pe_callB call_isi (by rfl) T.isi (by decide +kernel) (pa_cons (pe_ix ix_tup (pv 0) pe_int (fun _ _ => rfl)) (pa_cons (pe_bltn (v := .ty "str") (by rfl) T.str (by decide +kernel) rfl) pa_nil))))) (pss_one (ps_ret pe_bl)) pss_nil) (pss_cons (ps_if (pt_cmpR op_eq (pe_callB call_len_seq (by rfl) T.len (by decide +kernel) (pa_cons (pv 0) pa_nil)) pe_int (nomark _)) (pss_one (ps_ret (pe_cmpR op_eq (pe_ix ix_tup (pv 0) pe_int (fun _ _ => rfl)) pe_str (nomark _)))) pss_nil) (pss_cons (ps_if (pt_not (pt_val (pe_call GI hr rfl mI FI.kp bI .nil pass0 (pa_cons (pe_ix ix_tup (pv 0) pe_int (fun _ _ => rfl)) pa_nil)))) (pss_one (ps_ret pe_bl)) pss_nil) (pss_cons (ps_if (pt_cmpR op_eq (pe_ix ix_tup (pv 0) pe_int (fun _ _ => rfl)) pe_str (nomark _)) (pss_one (ps_ret (pe_and (pe_cmpR op_gt (pv 1) pe_int (nomark _)) (pe_one (pe_chain op_le op_le pe_int (pe_ix ix_tup (pv 0) pe_int (fun _ _ => rfl)) (pe_glob (v := .int 1000) rfl m1 ⟨_, rfl⟩)))))) pss_nil) (pss_one (ps_ret (pe_and (pe_cmpR op_eq (pe_ix ix_tup (pv 0) pe_int (fun _ _ => rfl)) pe_str (nomark _)) (pe_one (pe_chain op_le op_le pe_int (pe_ix ix_tup (pv 0) pe_int (fun _ _ => rfl)) (pv 1))))))))))), ?_⟩
    refine ⟨_, rfl, _, _, _, _, _, rfl, .ty _, .base (.tup ht), kit_ty (r := true) (by decide +kernel), true, rfl, ?_⟩
    refine iteF ?_
    refine ⟨_, rfl, t, _, rfl, .inr (SqT.of ht), by show 2 ≤ sizeLine; decide, fun q hq => ?_⟩
    have hS : Same H (upd H q (.tup [.int 1, .int 2])) := same_new hq
    have ht2 := hS t _ ht
    refine ⟨q, _, rfl, .inr (SqT.of upd_same), rfl, rfl, _, rfl, ?_⟩
    cases tl with
    | fin =>
      refine iteFb (by decide +kernel) ?_
      refine ⟨_, rfl, t, _, _, _, rfl, rfl, SqT.of ht2, atI_nat (j := 0) rfl, _, _, _, _, _, rfl, .ty _, .base (.str _), kit_ty (r := true) (by decide +kernel), true, rfl, iteF ?_⟩
      refine ⟨_, rfl, t, _, rfl, .inr (SqT.of ht2), rfl, _, rfl, iteTb (by decide +kernel) ?_⟩
      refine ⟨_, rfl, t, _, _, _, rfl, rfl, SqT.of ht2, atI_nat (j := 0) rfl, rfl, ?_⟩
      exact k _ hS
    | times b =>
      refine iteFb (by show (!inV (V.int 2) [V.int 1, V.int 2]) = false; decide +kernel) ?_
      refine ⟨_, rfl, t, _, _, _, rfl, rfl, SqT.of ht2, atI_nat (j := 0) rfl, _, _, _, _, _, rfl, .ty _, .base (.str _), kit_ty (r := true) (by decide +kernel), true, rfl, iteF ?_⟩
      refine ⟨_, rfl, t, _, rfl, .inr (SqT.of ht2), rfl, _, rfl, iteFb (by show decide (V.int 2 = V.int 1) = false; decide +kernel) ?_⟩
      refine ⟨_, rfl, t, _, _, _, rfl, rfl, SqT.of ht2, atI_nat (j := 1) rfl, b, rfl, true, rfl, iteF ?_⟩
      refine ⟨_, rfl, t, _, _, _, rfl, rfl, SqT.of ht2, atI_nat (j := 0) rfl, rfl, _, rfl, iteTb (by decide +kernel) ?_⟩
      refine ⟨_, rfl, _, _, rfl, rfl, _, rfl, iteTb (decide_eq_true (by have := ok.1; omega)) ?_⟩
      refine ⟨_, rfl, t, _, _, _, rfl, rfl, SqT.of ht2, atI_nat (j := 1) rfl, _, _, rfl, rfl, _, rfl, iteTb (decide_eq_true ok.2.1) ?_⟩
      refine ⟨_, _, rfl, rfl, ?_⟩
      show Q (.bl (decide (b ≤ 1000))) _
      rw [decide_eq_true ok.2.2]
      exact k _ hS
    | rep m =>
      refine iteFb (by show (!inV (V.int 2) [V.int 1, V.int 2]) = false; decide +kernel) ?_
      refine ⟨_, rfl, t, _, _, _, rfl, rfl, SqT.of ht2, atI_nat (j := 0) rfl, _, _, _, _, _, rfl, .ty _, .base (.str _), kit_ty (r := true) (by decide +kernel), true, rfl, iteF ?_⟩
      refine ⟨_, rfl, t, _, rfl, .inr (SqT.of ht2), rfl, _, rfl, iteFb (by show decide (V.int 2 = V.int 1) = false; decide +kernel) ?_⟩
      refine ⟨_, rfl, t, _, _, _, rfl, rfl, SqT.of ht2, atI_nat (j := 1) rfl, _, rfl, true, rfl, iteF ?_⟩
      refine ⟨_, rfl, t, _, _, _, rfl, rfl, SqT.of ht2, atI_nat (j := 0) rfl, rfl, _, rfl, iteFb (by decide +kernel) ?_⟩
      refine ⟨_, rfl, t, _, _, _, rfl, rfl, SqT.of ht2, atI_nat (j := 0) rfl, rfl, true, by decide +kernel, iteT ?_⟩
      refine ⟨_, rfl, t, _, _, _, rfl, rfl, SqT.of ht2, atI_nat (j := 1) rfl, _, _, rfl, rfl, _, rfl, iteTb (decide_eq_true (by have := ok.1; omega)) ?_⟩
      refine ⟨_, rfl, _, _, rfl, rfl, ?_⟩
      show Q (.bl (decide (((m : Nat) : Int) ≤ (n : Int)))) _
      rw [decide_eq_true (show ((m : Nat) : Int) ≤ (n : Int) by have := ok.2; omega)]
      exact k _ hS
end
end RS
/-! ### comprehensions that only make values -/
namespace L2
open PySem PySem.Spec PyProof.Rows
/-- what the first i turns have made -/
def selTo (sel : Nat → Option V) (i : Nat) : List V := (List.range i).filterMap sel
theorem selTo_succ (sel : Nat → Option V) (i : Nat) : selTo sel (i + 1) = selTo sel i ++ (sel i).toList := by
  unfold selTo
  rw [List.range_succ, List.filterMap_append]
  cases h : sel i <;> simp [h]
theorem selTo_le (sel : Nat → Option V) (i : Nat) : (selTo sel i).length ≤ i := by
  unfold selTo
  have := List.length_filterMap_le sel (List.range i)
  rw [List.length_range] at this
  exact this
theorem selTo_get (ys : List V) : ∀ i, i ≤ ys.length → selTo (fun j : Nat => ys[j]?) i = ys.take i
  | 0, _ => rfl
  | i + 1, h => by
    rw [selTo_succ, selTo_get ys i (by omega), List.take_add_one]
theorem same_app {H1 H : Hp} {D : Addr} {o : HO} (hD : H1 D = none) (S : Same H1 H) : Same H1 (upd H D o) := fun b u e => by
  rw [upd_ne (ne_of_none e hD)]
  exact S b u e
theorem small_line {n : Nat} (h : n ≤ 100000) : n < sizeLine := Nat.lt_of_le_of_lt h (by decide +kernel)
/-- xs[i] in a block, K written -/
theorem pe_ixK {X : Cx} (K : PySem.W.Frag) (hK : X.K = K) {o i : Expr} {to ti : TE} {pos : Pos} (ho : PE X o to) (hi : PE X i ti) (hp : PlainIx i := by exact fun _ _ => rfl) : PE X (.Subscript o i pos) (tOp (rIxL K) to ti) := by
  subst hK
  exact pe_ix ix_list ho hi hp
theorem pe_ixTK {X : Cx} (K : PySem.W.Frag) (hK : X.K = K) {o i : Expr} {to ti : TE} {pos : Pos} (ho : PE X o to) (hi : PE X i ti) (hp : PlainIx i := by exact fun _ _ => rfl) : PE X (.Subscript o i pos) (tOp (rIxT K) to ti) := by
  subst hK
  exact pe_ix ix_tup ho hi hp
section
variable {X : Cx} {e tg : Expr} {te : TE} {p pos : Pos}
theorem pi_listK (K : PySem.W.Frag) (hK : X.K = K) (h : PE X e te) : PI X tg e (iList K te) := by
  subst hK
  exact pi_list h
theorem pi_tupK (K : PySem.W.Frag) (hK : X.K = K) (h : PE X e te) : PI X tg e (iTup K te) := by
  subst hK
  exact pi_tup h
theorem pe_allK (K : PySem.W.Frag) (hK : X.K = K) (hc : X.calm = true) (hg : Gl X "all") (hm : X.mg "all" = none) (ha : PE X e te) (hs : starEach [e] X.env = (false, eval e X.env) :: starEach [] X.env := by rfl) : PE X (.Call (.Name "all" p) [e] [] pos) (tCB (rAll K) (tCons te tNil)) := by
  subst hK
  exact pe_callB (cr_all hc) hg hm (by decide +kernel) (pa_cons ha pa_nil hs) (he := hs)
theorem pe_minK (K : PySem.W.Frag) (hK : X.K = K) (hc : X.calm = true) (hg : Gl X "min") (hm : X.mg "min" = none) (ha : PE X e te) (hs : starEach [e] X.env = (false, eval e X.env) :: starEach [] X.env := by rfl) : PE X (.Call (.Name "min" p) [e] [] pos) (tCB (rMin K) (tCons te tNil)) := by
  subst hK
  exact pe_callB (cr_min hc) hg hm (by decide +kernel) (pa_cons ha pa_nil hs) (he := hs)
end
section
variable {K : PySem.W.Frag} {a : Addr} {xs : List V} {g : TG} {tt : TT} {te : TE} {vs : List Nat} {σ : St} {H1 : Hp} {D : Addr} {Qd : Hp → Prop}
/-- over a list: turn i makes sel i, or nothing -/
theorem lc_sel (sel : Nat → Option V) (hx : SqL K H1 a xs) (hD : H1 D = none) (hn : xs.length ≤ 100000)
    (hs : ∀ (i : Nat) (x : V) (H : Hp) (Q : Option V → Hp → Prop), xs[i]? = some x → Same H1 H → (∀ H', Same H H' → Q (sel i) H') → g x (wipe σ vs) H fun σ2 H2 => wipe σ2 vs = wipe σ vs ∧ tt σ2 H2 fun b H3 =>
      if b = true then te σ2 H3 fun y H4 => Q (some y) H4 else Q none H3)
    (hd : ∀ H, Same H1 H → H D = some (.lst (selTo sel xs.length)) → Qd H) :
    ∃ W : Nat → Nat → Hp → Prop, (∃ m, W 0 m (upd H1 D (.lst []))) ∧ ∀ i m H, W i m H →
      ((Itl K a).stop i H ∧ Qd H) ∨ ((Itl K a).go i H ∧ ∃ Nx : Hp → Prop, (∀ H', Nx H' → ∃ m', m' < m ∧ W (i + 1) m' H') ∧ ∀ x H', (Itl K a).yld i H x H' → g x (wipe σ vs) H' fun σ2 H2 => wipe σ2 vs = wipe σ vs ∧ tt σ2 H2 fun b H3 =>
        if b = true then te σ2 H3 fun y H4 => ∃ acc, H4 D = some (.lst acc) ∧ acc.length < sizeLine ∧ Nx (upd H4 D (.lst (acc ++ [y]))) else Nx H3) := by
  refine lc_list (a := a) (xs := xs) (fun i H => i ≤ xs.length ∧ Same H1 H ∧ H D = some (.lst (selTo sel i))) ⟨Nat.zero_le _, same_app hD (fun _ _ e => e), upd_same⟩ (fun i H _ p => p.2.1.seq hx) (fun i x H hi p => ?_) (fun H p => hd H p.2.1 p.2.2)
  have hlt : i < xs.length := (List.getElem?_eq_some_iff.mp hi).1
  refine hs i x H (fun o H' => match o with | some y => ∃ acc, H' D = some (.lst acc) ∧ acc.length < sizeLine ∧ (i + 1 ≤ xs.length ∧ Same H1 (upd H' D (.lst (acc ++ [y]))) ∧ upd H' D (.lst (acc ++ [y])) D = some (.lst (selTo sel (i + 1)))) | none => i + 1 ≤ xs.length ∧ Same H1 H' ∧ H' D = some (.lst (selTo sel (i + 1)))) hi p.2.1 (fun H' S => ?_)
  have hl := selTo_le sel i
  rw [selTo_succ]
  cases sel i with
  | none => exact ⟨hlt, p.2.1.trans S, by simpa using S _ _ p.2.2⟩
  | some y => exact ⟨_, S _ _ p.2.2, small_line (by omega), hlt, same_app hD (p.2.1.trans S), upd_same⟩
/-- over a range -/
theorem lc_selR {lo : Int} {n : Nat} (sel : Nat → Option V) (hD : H1 D = none) (hn : n ≤ 100000)
    (hs : ∀ (i : Nat) (H : Hp) (Q : Option V → Hp → Prop), i < n → Same H1 H → (∀ H', Same H H' → Q (sel i) H') → g (.int (lo + i)) (wipe σ vs) H fun σ2 H2 => wipe σ2 vs = wipe σ vs ∧ tt σ2 H2 fun b H3 =>
      if b = true then te σ2 H3 fun y H4 => Q (some y) H4 else Q none H3)
    (hd : ∀ H, Same H1 H → H D = some (.lst (selTo sel n)) → Qd H) :
    ∃ W : Nat → Nat → Hp → Prop, (∃ m, W 0 m (upd H1 D (.lst []))) ∧ ∀ i m H, W i m H →
      ((Itr lo n).stop i H ∧ Qd H) ∨ ((Itr lo n).go i H ∧ ∃ Nx : Hp → Prop, (∀ H', Nx H' → ∃ m', m' < m ∧ W (i + 1) m' H') ∧ ∀ x H', (Itr lo n).yld i H x H' → g x (wipe σ vs) H' fun σ2 H2 => wipe σ2 vs = wipe σ vs ∧ tt σ2 H2 fun b H3 =>
        if b = true then te σ2 H3 fun y H4 => ∃ acc, H4 D = some (.lst acc) ∧ acc.length < sizeLine ∧ Nx (upd H4 D (.lst (acc ++ [y]))) else Nx H3) := by
  refine lc_range (fun i H => i ≤ n ∧ Same H1 H ∧ H D = some (.lst (selTo sel i))) ⟨Nat.zero_le _, same_app hD (fun _ _ e => e), upd_same⟩ (fun i H hlt p => ?_) (fun H p => hd H p.2.1 p.2.2)
  refine hs i H (fun o H' => match o with | some y => ∃ acc, H' D = some (.lst acc) ∧ acc.length < sizeLine ∧ (i + 1 ≤ n ∧ Same H1 (upd H' D (.lst (acc ++ [y]))) ∧ upd H' D (.lst (acc ++ [y])) D = some (.lst (selTo sel (i + 1)))) | none => i + 1 ≤ n ∧ Same H1 H' ∧ H' D = some (.lst (selTo sel (i + 1)))) hlt p.2.1 (fun H' S => ?_)
  have hl := selTo_le sel i
  rw [selTo_succ]
  cases sel i with
  | none => exact ⟨hlt, p.2.1.trans S, by simpa using S _ _ p.2.2⟩
  | some y => exact ⟨_, S _ _ p.2.2, small_line (by omega), hlt, same_app hD (p.2.1.trans S), upd_same⟩
theorem yes_ite {te : TE} {F : V → Hp → Prop} {N : Hp → Prop} {σ : St} {H : Hp} : (tYes σ H fun b H3 => if b = true then te σ H3 F else N H3) = te σ H F := by simp [tYes]
/-- over a list, without a test: the values ys -/
theorem lc_map (ys : List V) (hx : SqL K H1 a xs) (hD : H1 D = none) (hl : ys.length = xs.length) (hn : xs.length ≤ 100000)
    (hs : ∀ (i : Nat) (x y : V) (H : Hp) (Q : V → Hp → Prop), xs[i]? = some x → ys[i]? = some y → Same H1 H → (∀ H', Same H H' → Q y H') → g x (wipe σ vs) H fun σ2 H2 => wipe σ2 vs = wipe σ vs ∧ te σ2 H2 Q)
    (hd : ∀ H, Same H1 H → H D = some (.lst ys) → Qd H) :
    ∃ W : Nat → Nat → Hp → Prop, (∃ m, W 0 m (upd H1 D (.lst []))) ∧ ∀ i m H, W i m H →
      ((Itl K a).stop i H ∧ Qd H) ∨ ((Itl K a).go i H ∧ ∃ Nx : Hp → Prop, (∀ H', Nx H' → ∃ m', m' < m ∧ W (i + 1) m' H') ∧ ∀ x H', (Itl K a).yld i H x H' → g x (wipe σ vs) H' fun σ2 H2 => wipe σ2 vs = wipe σ vs ∧ tYes σ2 H2 fun b H3 =>
        if b = true then te σ2 H3 fun y H4 => ∃ acc, H4 D = some (.lst acc) ∧ acc.length < sizeLine ∧ Nx (upd H4 D (.lst (acc ++ [y]))) else Nx H3) := by
  refine lc_sel (fun j : Nat => ys[j]?) hx hD hn (fun i x H Q hi S q => ?_) (fun H S h => hd H S (by rw [← hl, selTo_get ys _ (Nat.le_refl _), List.take_length] at h; exact h))
  have hlt : i < xs.length := (List.getElem?_eq_some_iff.mp hi).1
  have hy : ys[i]? = some ys[i] := List.getElem?_eq_getElem (by omega)
  simp only [yes_ite]
  exact hs i x _ H (fun y H' => Q (some y) H') hi hy S fun H' S' => hy ▸ q H' S'
theorem lc_mapR {lo : Int} {n : Nat} (ys : List V) (hD : H1 D = none) (hl : ys.length = n) (hn : n ≤ 100000)
    (hs : ∀ (i : Nat) (y : V) (H : Hp) (Q : V → Hp → Prop), i < n → ys[i]? = some y → Same H1 H → (∀ H', Same H H' → Q y H') → g (.int (lo + i)) (wipe σ vs) H fun σ2 H2 => wipe σ2 vs = wipe σ vs ∧ te σ2 H2 Q)
    (hd : ∀ H, Same H1 H → H D = some (.lst ys) → Qd H) :
    ∃ W : Nat → Nat → Hp → Prop, (∃ m, W 0 m (upd H1 D (.lst []))) ∧ ∀ i m H, W i m H →
      ((Itr lo n).stop i H ∧ Qd H) ∨ ((Itr lo n).go i H ∧ ∃ Nx : Hp → Prop, (∀ H', Nx H' → ∃ m', m' < m ∧ W (i + 1) m' H') ∧ ∀ x H', (Itr lo n).yld i H x H' → g x (wipe σ vs) H' fun σ2 H2 => wipe σ2 vs = wipe σ vs ∧ tYes σ2 H2 fun b H3 =>
        if b = true then te σ2 H3 fun y H4 => ∃ acc, H4 D = some (.lst acc) ∧ acc.length < sizeLine ∧ Nx (upd H4 D (.lst (acc ++ [y]))) else Nx H3) := by
  refine lc_selR (fun j : Nat => ys[j]?) hD hn (fun i H Q hlt S q => ?_) (fun H S h => hd H S (by rw [← hl, selTo_get ys _ (Nat.le_refl _), List.take_length] at h; exact h))
  have hy : ys[i]? = some ys[i] := List.getElem?_eq_getElem (by omega)
  simp only [yes_ite]
  exact hs i _ H (fun y H' => Q (some y) H') hlt hy S fun H' S' => hy ▸ q H' S'
end
end L2
/-! ### set(xs) of a list of ints -/
namespace L2
open PySem PySem.Spec PyProof.Rows
def eset (w : World) : Obj := { cls := .type "set", dict := none, data := .set #[] 0 (.fresh 0 0 (!w.params.followText "set-order")) }
section
variable {P : Program} {w : World} {A : Around} {E : Value → Shared → Prop} {s : Shared}
set_option maxHeartbeats 4000000 in
theorem set_from {l : Addr} {its : Array Value} (zs : List Int) {Q : Value → Shared → Prop} (calm : A.handled = none) (isl : s.heap.IsList l its) (hz : IntsAre its.toList zs) (few : zs.length + 1 < scanBound)
    (fin : ∀ (g : Heap) (tt n : Nat), SetR w g s.heap.objs.size (fun j => decide (j ∈ zs)) n → n ≤ zs.length → (∀ b o, s.heap.get? b = some o → g.get? b = some o) → Q (.ref s.heap.objs.size) { s with heap := g, toks := tt }) :
    wpAny (model P w) A (call (.type "set") [.ref l]) Q E s := by
  have many : its.size = zs.length := by simpa using IntsAre.length hz
  have k1 := F.called_set
  obtain ⟨cc, tll, mroS⟩ := k1.mro
  have m1 := k1.made; have m2 := k1.sub; have m3 := k1.notType; have m4 := k1.canCreate; have m5 := F.typeCall_set_1 (.ref l)
  refine wpAny_call (codeAny_of_tree (show wpAny _ _ (callAny (.type "set") _) _ _ _ from wpAny_pure ⟨Code.quiet_builtin _ (by decide +kernel), codeAny_builtin F.entry_type_call ?_⟩))
  rw [Around.under_plain (weight_type_call_type "set" [.ref l] []) rfl]
  repeat (any_goals (first | assumption | wp_step))
  refine codeAny_mono (code_set_led1 (.ref l) (E := E) (Q₁ := fun ob t => ob = .ref s.heap.objs.size ∧ t = { s with heap := s.heap.push (eset w) }) ⟨rfl, rfl⟩) fun out t1 told => ?_
  match out, told with
  | .error _, told => exact told
  | .ok .next, told => exact told.elim
  | .ok .brk, told => exact told.elim
  | .ok .cont, told => exact told.elim
  | .ok (.ret ob), ⟨eo, et⟩ =>
    subst eo et
    have atS : (s.heap.push (eset w)).get? s.heap.objs.size = some (eset w) := Heap.get?_push_size _ rfl
    have tyS : Shared.TypeIs { s with heap := s.heap.push (eset w) } (.ref s.heap.objs.size) "set" := ⟨_, atS, rfl⟩
    have n1 := k1.init.lookup; have n2 := k1.init.bind (.ref s.heap.objs.size)
    repeat (any_goals (first | assumption | wp_step))
    refine codeAny_mono (codeAny_call_builtin (R := wants (fun r t => r = .none ∧ ∃ g tt n, t = { s with heap := g, toks := tt } ∧ SetR w g s.heap.objs.size (fun j => decide (j ∈ zs)) n ∧ n ≤ zs.length ∧ ∀ b o, s.heap.get? b = some o → g.get? b = some o) E) k1.init.plain F.entry_set_init (check_set_init_1 tyS ?_)) fun out t2 told => ?_
    · obtain ⟨⟨oc, od, odt, osl⟩, atL, cl, nn, dt⟩ := isl
      simp only at cl dt
      subst cl dt
      have atL1 : (s.heap.push (eset w)).get? l = some { cls := .type "list", dict := od, data := .seq its nn, slots := osl } := Heap.get?_push_of_some _ atL
      have q1 := F.sub_list_set; have q2 := F.sub_list_frozenset
      have q3 : (Value.type "list" == Value.type "dict") = false := by decide
      have isl1 : (s.heap.push (eset w)).IsList l its := ⟨_, atL1, rfl, nn, rfl⟩
      unfold Builtin.«set.__init__» noKeywords Builtin.Frozenset.updateFrom
      generalize eP : pyIter = PP
      wp_walk
      subst eP
      refine wpAny_pyIter_list isl1 (wpAny_bind (wpAny_runValue ?_))
      have lo : l < s.heap.objs.size := Heap.lt_size atL
      have sz : (s.heap.push (eset w)).objs.size = s.heap.objs.size + 1 := Heap.size_push ..
      have calm3 : A.in1.in1.in1.handled = none := by simp [calm]
      have d1 : l ≠ (s.heap.push (eset w)).objs.size := by rw [sz]; exact Nat.ne_of_lt (Nat.lt_succ_of_lt lo)
      have d2 : s.heap.objs.size ∉ [(s.heap.push (eset w)).objs.size, l] := by
        rw [sz]
        simp only [List.mem_cons, List.not_mem_nil, or_false, not_or]
        exact ⟨Nat.ne_of_lt (Nat.lt_succ_self _), (Nat.ne_of_lt lo).symm⟩
      have vals : ∀ (i : Nat) (v : Value), its[i]? = some v → ∃ k t, zs[i]? = some k ∧ v = .int k t := fun i v hv => by
        have lt : i < zs.length := many ▸ (Array.getElem?_eq_some_iff.mp hv).1
        obtain ⟨t, ev⟩ := IntsAre.int_at hz i v (by simpa using hv)
        exact ⟨zs[i], t, List.getElem?_eq_getElem lt, by rw [ev, List.getD_eq_getElem?_getD, List.getElem?_eq_getElem lt] <;> rfl⟩
      refine set_update_ints ((Walks.list calm3 _ l d1 its).toS) s.heap.objs.size d2 zs many few vals (its.size - 0) 0 _ (by omega) (Nat.zero_le _) ⟨⟨_, Heap.get?_push_size _ rfl, rfl, rfl⟩, isl1.push _⟩ ⟨0, Nat.le_refl 0, setR_new_at (Heap.get?_push_of_some _ atS)⟩ fun t n mv hn R => ?_
      obtain ⟨g, gn, dr, tt, os⟩ := t
      obtain rfl : gn = s.gens := mv.gens
      obtain rfl : dr = s.drawn := mv.drawn
      obtain rfl : os = s.os := mv.os
      show wpAny _ _ _ _ _ _
      refine wpAny_pure (show wpAny _ _ (ret Value.none) _ _ _ from wpAny_pure ⟨rfl, g, tt, n, rfl, R, many ▸ hn, fun b o e => ?_⟩)
      have hb := Heap.lt_size e
      refine mv.heap b o ?_ (Heap.get?_push_of_some _ (Heap.get?_push_of_some _ e))
      simp only [List.mem_cons, List.not_mem_nil, or_false, not_or]
      rw [sz]
      exact ⟨Nat.ne_of_lt hb, Nat.ne_of_lt (Nat.lt_succ_of_lt hb)⟩
    · match out, told with
      | .error _, told => exact told
      | .ok .next, told => exact told.elim
      | .ok .brk, told => exact told.elim
      | .ok .cont, told => exact told.elim
      | .ok (.ret _), ⟨e1, g, tt, n, e2, R, hn, kp⟩ =>
        subst e1 e2
        repeat (any_goals (first | assumption | wp_step))
        exact fin _ _ _ R hn kp
end
section
variable {X : Cx}
def rSetOfL (K : PySem.W.Frag) (w : World) : List V → Hp → VK → Prop := fun xs H Q => ∃ (l : Addr) (ns : List Int), xs = [.ref l] ∧ SqL K H l (ns.map V.int) ∧ ns.length ≤ 4000 ∧ ∀ p n, H p = none → n ≤ ns.length → Q (.ref p) (upd H p (SetO w p (fun j => decide (j ∈ ns)) n))
theorem cr_setL (hc : X.calm = true) : CallR X (.type "set") (rSetOfL X.K X.w) := by
  intro pins s σ H xs us Q I r h
  obtain ⟨l, ns, rfl, hs, hn, q⟩ := h
  obtain ⟨its, rv, hl, _⟩ := I.list hs
  rw [Vals.ref1 r]
  refine set_from ns (I.ok.hd hc) hl.isList (by simpa using rv.ints) (by unfold scanBound; omega) fun g tt n R hle kp => ?_
  exact ⟨.ref _, upd H s.heap.objs.size (SetO X.w s.heap.objs.size (fun j => decide (j ∈ ns)) n), I.laid (t' := tt) kp (Nat.le_refl _) (setO_new R), rfl, q _ _ (I.hok.fresh (Nat.le_refl _)) hle⟩
end
end L2
namespace RS
open PySem L2
theorem kGT : ¬ (("_gaps" : Str) = "_tail") := by decide +kernel
theorem kGO : ¬ (("_gaps" : Str) = "_offsets") := by decide +kernel
theorem kTO : ¬ (("_tail" : Str) = "_offsets") := by decide +kernel
def flds (g t o : Addr) : List (Str × V) := putF "_offsets" (.ref o) (putF "_tail" (.ref t) (putF "_gaps" (.ref g) []))
theorem flds_g (g t o : Addr) : (flds g t o).lookup ("_gaps" : Str) = some (.ref g) := by
  unfold flds
  rw [lookup_putF, if_neg kGO, lookup_putF, if_neg kGT, lookup_putF, if_pos rfl]
theorem flds_t (g t o : Addr) : (flds g t o).lookup ("_tail" : Str) = some (.ref t) := by
  unfold flds
  rw [lookup_putF, if_neg kTO, lookup_putF, if_pos rfl]
theorem flds_o (g t o : Addr) : (flds g t o).lookup ("_offsets" : Str) = some (.ref o) := by
  unfold flds
  rw [lookup_putF, if_pos rfl]
theorem flds_no (g t o : Addr) {m : Str} (h1 : ¬ m = "_offsets") (h2 : ¬ m = "_tail") (h3 : ¬ m = "_gaps") : (flds g t o).lookup m = none := by
  unfold flds
  rw [lookup_putF, if_neg h1, lookup_putF, if_neg h2, lookup_putF, if_neg h3]
  rfl
/-- a rule stands at p -/
structure RuleAt (C : Addr) (H : Hp) (p g t o : Addr) (gs : List Int) (tl : Tl) : Prop where
  ob : ∃ dx, H p = some (.ins C dx (flds g t o))
  hg : H g = some (.lst (gs.map V.int))
  ht : H t = some (.tup tl.vs)
  ho : H o = some (.lst ((offs gs).map V.int))
  okG : GapsOk gs
  okT : TlOk gs.length tl
theorem RuleAt.mono {C : Addr} {H H' : Hp} {p g t o : Addr} {gs : List Int} {tl : Tl} (R : RuleAt C H p g t o gs tl) (h : Same H H') : RuleAt C H' p g t o gs tl :=
  ⟨let ⟨dx, e⟩ := R.ob; ⟨dx, h _ _ e⟩, h _ _ R.hg, h _ _ R.ht, h _ _ R.ho, R.okG, R.okT⟩
theorem map_of {xs : List Int} {i : Nat} {x : V} (hx : (xs.map V.int)[i]? = some x) : ∃ g, xs[i]? = some g ∧ x = .int g := by
  rw [List.getElem?_map] at hx
  cases e : xs[i]? with
  | none => rw [e] at hx; cases hx
  | some g => rw [e] at hx; exact ⟨g, rfl, (Option.some.inj hx).symm⟩

section
variable {P : Program} {w : World} {K : PySem.W.Frag} {mg : Str → Option Value} {base : Heap}
/-! ### _sums -/
def spSums : Sp := fun vs H Q _ => ∃ a gs, vs = [.ref a] ∧ H a = some (.lst (gs.map V.int)) ∧ gs.length ≤ 100 ∧ ∀ p H', H p = none → Same H H' → H' p = some (.lst ((offs gs).map V.int)) → Q (.ref p) H'
theorem scSums : FnScope ["gaps", "offsets", "gap"] ["gaps"] (defScope s_sums) := ⟨rfl, rfl, rfl, by decide +kernel, rfl, by decide +kernel, by decide +kernel⟩
theorem ok_sums {f : Addr} {fd : FuncData} (F : Fun K "sums" "sums" s_sums f fd) : FnOk P w K mg base CX0 1 f fd ["gaps"] spSums := by
  refine F.ok scSums (fun vs H Q E h => ?_) (fun cdv A outer s H vs Q E hr h => ?_)
  · obtain ⟨a, gs, rfl, _⟩ := h
    rfl
  · obtain ⟨a, gs, rfl, ha, hn, k⟩ := h
    refine ⟨_, (pss_cons (ps_set (i := 1) scSums.nd rfl (Or.inl rfl) (pe_lst (pa_cons pe_int pa_nil))) (pss_cons (ps_for PassesOwn.never rfl (pi_list (pv 0)) (pg_name (i := 2) scSums.nd rfl (Or.inl rfl)) (pss_one (ps_expr (pe_bm PySem.F.plainAttrs_list PySem.F.slot_list_append PySem.F.type_list_append mt_append (pv 1) (pa_cons (pe_op op_add (pe_ix ix_list (pv 1) (pe_un un_neg pe_int) (fun _ _ => rfl)) (pv 2)) pa_nil))))) (pss_one (ps_ret (pv 1))))), ?_⟩
    refine ⟨by show 1 ≤ sizeLine; decide, fun l hl => ?_⟩
    have S0 : Same H (upd H l (.lst [.int 0])) := same_new hl
    refine ⟨_, rfl, a, rfl, ⟨_, SqL.of (S0 _ _ ha)⟩, for_list (a := a) (xs := gs.map V.int) (fun i σ H' => ∃ v, σ = [some (.ref a), some (.ref l), v] ∧ Same H H' ∧ H' l = some (.lst (((List.range (i + 1)).map (pre gs)).map V.int))) ⟨none, rfl, S0, upd_same⟩ (fun i σ H' _ ⟨v, _, S, _⟩ => SqL.of (S _ _ ha)) ?_ ?_⟩
    · rintro i x σ H' hx ⟨v, rfl, S, hl'⟩
      obtain ⟨g, hg, rfl⟩ := map_of hx
      have hi : i < gs.length := (List.getElem?_eq_some_iff.mp hg).1
      have hz : (((List.range (i + 1)).map (pre gs)).map V.int).length = i + 1 := by simp
      refine ⟨_, rfl, .inl ⟨rfl, _, SqL.of hl'⟩, _, rfl, _, rfl, l, _, _, _, rfl, rfl, SqL.of hl', at_back1 (v := .int (pre gs i)) (by rw [hz]; omega) ?_, _, rfl, _, _, rfl, rfl, l, _, _, rfl, rfl, hl', by rw [hz]; exact small1000 (by omega), ?_⟩
      · rw [hz, List.getElem?_map, List.getElem?_map, List.getElem?_range (by omega)]
        rfl
      · refine ⟨_, rfl, fun b o e => ?_, ?_⟩
        · rw [upd_ne (ne_of_none e hl)]
          exact S b o e
        · rw [upd_same, List.range_succ (n := i + 1), List.map_append, List.map_append]
          show _ = some (HO.lst (_ ++ [V.int (pre gs (i + 1))]))
          rw [pre_succ gs hg]
    · rintro σ H' ⟨v, rfl, S, hl'⟩
      rw [List.length_map] at hl'
      exact ⟨_, rfl, k l H' hl S hl'⟩

/-! ### _power -/
def spPower : Sp := fun vs H Q _ => ∃ (b : Int) (e : Nat), vs = [.int b, .int (e : Int)] ∧ 0 ≤ b ∧ b < 1024 ∧ e ≤ 1024 ∧ Q (.int (b ^ e)) H
theorem scPower : FnScope ["base", "exponent", "result"] ["base", "exponent"] (defScope s_power) := ⟨rfl, rfl, rfl, by decide +kernel, rfl, by decide +kernel, by decide +kernel⟩
theorem pow_small {b : Int} {n : Nat} (h0 : 0 ≤ b) (h1 : b < 1024) (hn : n ≤ 2048) : (b ^ n).natAbs < 2 ^ 20481 := by
  rw [Int.natAbs_pow]
  have h2 : b.natAbs ≤ 2 ^ 10 := by omega
  have h3 : b.natAbs ^ n ≤ (2 ^ 10) ^ n := Nat.pow_le_pow_left h2 n
  rw [← Nat.pow_mul] at h3
  have h4 : 2 ^ (10 * n) < 2 ^ 20481 := Nat.pow_lt_pow_right (by decide) (by omega)
  omega
theorem half_mod (e k : Nat) : e % 2 ^ (k + 1) = e % 2 ^ k + 2 ^ k * (e / 2 ^ k % 2) := by
  rw [Nat.pow_succ, Nat.mod_mul]
theorem half_div (e k : Nat) : e / 2 ^ k / 2 = e / 2 ^ (k + 1) := by
  rw [Nat.pow_succ, Nat.div_div_eq_div_mul]
theorem ok_power {f : Addr} {fd : FuncData} (F : Fun K "_power" "_power" s_power f fd) : FnOk P w K mg base CX0 1 f fd ["base", "exponent"] spPower := by
  refine F.ok scPower (fun vs H Q E h => ?_) (fun cdv A outer s H vs Q E hr h => ?_)
  · obtain ⟨b, e, rfl, _⟩ := h
    rfl
  · obtain ⟨b, e, rfl, b0, b1, he, k⟩ := h
    refine ⟨_, (pss_cons (ps_set (i := 2) scPower.nd rfl (Or.inl rfl) pe_int) (pss_cons (ps_while PassesOwn.never (pt_cmpR op_gt (pv 1) pe_int (nomark _)) (pss_cons (ps_if (pt_cmpR op_eq (pe_op op_odd (pv 1) pe_int) pe_int (nomark _)) (pss_one (ps_set (i := 2) scPower.nd rfl (Or.inl rfl) (pe_op op_mulW (pv 2) (pv 0)))) pss_nil) (pss_cons (ps_set (i := 0) scPower.nd rfl (Or.inl rfl) (pe_op op_mulW (pv 0) (pv 0))) (pss_one (ps_set (i := 1) scPower.nd rfl (Or.inl rfl) (pe_op op_halfN (pv 1) pe_int)))))) (pss_one (ps_ret (pv 2))))), ?_⟩
    refine ⟨fun m σ H' => H' = H ∧ ∃ j, m = e / 2 ^ j ∧ σ = [some (.int (b ^ (2 ^ j))), some (.int ((e / 2 ^ j : Nat) : Int)), some (.int (b ^ (e % 2 ^ j)))], ⟨e, rfl, 0, by simp, by simp [L2.start, Nat.mod_one]; rw [Int.pow_succ, Int.pow_zero, Int.one_mul]⟩, ?_⟩
    rintro m σ H' ⟨rfl, j, rfl, rfl⟩
    refine ⟨_, rfl, _, _, rfl, rfl, _, rfl, ?_⟩
    by_cases hz : 0 < e / 2 ^ j
    · refine iteTb (decide_eq_true (by omega)) ?_
      have hj : 2 ^ j ≤ e := by
        by_cases hlt : e < 2 ^ j
        · rw [Nat.div_eq_of_lt hlt] at hz; omega
        · omega
      have hj1 : (b ^ (2 ^ j)).natAbs < 2 ^ 20481 := pow_small b0 b1 (by omega)
      have hm : e % 2 ^ j < 2 ^ j := Nat.mod_lt _ (Nat.pow_pos (by decide))
      have hr1 : (b ^ (e % 2 ^ j)).natAbs < 2 ^ 20481 := pow_small b0 b1 (by omega)
      refine ⟨fun σ' H2 => H2 = H' ∧ σ' = [some (.int (b ^ (2 ^ (j + 1)))), some (.int ((e / 2 ^ (j + 1) : Nat) : Int)), some (.int (b ^ (e % 2 ^ (j + 1))))], ?_, ?_⟩
      · rintro σ' H2 ⟨rfl, rfl⟩
        refine ⟨e / 2 ^ (j + 1), ?_, rfl, j + 1, rfl, rfl⟩
        rw [← half_div]
        omega
      · have e2 : b ^ 2 ^ j * b ^ 2 ^ j = b ^ 2 ^ (j + 1) := by
          rw [← Int.pow_add, Nat.pow_succ, Nat.mul_two]
        refine ⟨_, rfl, e / 2 ^ j, rfl, rfl, rfl, _, rfl, ?_⟩
        rcases Nat.mod_two_eq_zero_or_one (e / 2 ^ j) with h2 | h2
        · refine iteFb (decide_eq_false (by rw [h2]; intro z; cases z)) ?_
          refine ⟨_, rfl, _, rfl, _, _, rfl, rfl, wide_mul hj1 hj1 (by decide) (by decide) (by decide), ?_⟩
          refine ⟨_, rfl, e / 2 ^ j, rfl, rfl, rfl, ?_⟩
          rw [half_mod, h2, Nat.mul_zero, Nat.add_zero, ← half_div, ← e2]
          rfl
        · refine iteTb (decide_eq_true (by rw [h2]; rfl)) ?_
          refine ⟨_, rfl, _, rfl, _, _, rfl, rfl, wide_mul hr1 hj1 (by decide) (by decide) (by decide), ?_⟩
          refine ⟨_, rfl, _, rfl, _, _, rfl, rfl, wide_mul hj1 hj1 (by decide) (by decide) (by decide), ?_⟩
          refine ⟨_, rfl, e / 2 ^ j, rfl, rfl, rfl, ?_⟩
          rw [half_mod, h2, Nat.mul_one, Int.pow_add, ← half_div, ← e2]
          rfl
    · refine iteFb (decide_eq_false (by omega)) ?_
      have hlt : e % 2 ^ j = e := by
        refine Nat.mod_eq_of_lt ?_
        have := Nat.lt_div_mul_add (a := e) (b := 2 ^ j) (Nat.pow_pos (by decide))
        have h0 : e / 2 ^ j = 0 := Nat.eq_zero_of_not_pos hz
        rw [h0] at this
        omega
      refine ⟨_, rfl, ?_⟩
      rw [hlt]
      exact k
end
end RS
namespace RS
open PySem L2
def Tl.word : Tl → Str
  | .fin => "end"
  | .times _ => "times"
  | .rep _ => "repeat"
theorem Tl.at0 (tl : Tl) : atI tl.vs 0 = some (.str tl.word) := by cases tl <;> exact atI_nat (j := 0) rfl
theorem wEE : decide (V.str "end" = V.str "end") = true := by decide +kernel
theorem wET : decide (V.str "end" = V.str "times") = false := by decide +kernel
theorem wER : decide (V.str "end" = V.str "repeat") = false := by decide +kernel
theorem wTE : decide (V.str "times" = V.str "end") = false := by decide +kernel
theorem wTT : decide (V.str "times" = V.str "times") = true := by decide +kernel
theorem wTR : decide (V.str "times" = V.str "repeat") = false := by decide +kernel
theorem wRE : decide (V.str "repeat" = V.str "end") = false := by decide +kernel
theorem wRT : decide (V.str "repeat" = V.str "times") = false := by decide +kernel
theorem wRR : decide (V.str "repeat" = V.str "repeat") = true := by decide +kernel
def lastG (gs : List Int) : Int := gs.getD (gs.length - 1) 0
def per (gs : List Int) (m : Nat) : Int := pre gs gs.length - pre gs (gs.length - m)
def off (gs : List Int) (tl : Tl) (n : Nat) : Int :=
  if n ≤ gs.length then pre gs n else match tl with
  | .fin => 0
  | .times b => pre gs gs.length + lastG gs * b * (b ^ (n - gs.length) - 1) / (b - 1)
  | .rep m => pre gs (gs.length - m + (n - gs.length) % m) + (((n - gs.length) / m : Nat) + 1) * per gs m
def gapf (gs : List Int) (tl : Tl) (n : Nat) : Int :=
  if n < gs.length then gs.getD n 0 else match tl with
  | .fin => 0
  | .times b => lastG gs * b ^ (n - gs.length + 1)
  | .rep m => gs.getD (gs.length - m + (n - gs.length) % m) 0
/-- an attempt that is answered -/
def AttOk (gs : List Int) (tl : Tl) (n : Nat) : Prop := match tl with
  | .fin => n ≤ gs.length
  | .times _ => n ≤ 1000
  | .rep _ => True
theorem AttOk.low {gs : List Int} {tl : Tl} (okG : GapsOk gs) {n : Nat} (h : n ≤ gs.length) : AttOk gs tl n := by
  cases tl with
  | fin => exact h
  | times b => have := okG.1; show n ≤ 1000; omega
  | rep m => exact True.intro
theorem getD_get {gs : List Int} {k : Nat} (h : k < gs.length) : gs[k]? = some (gs.getD k 0) := by
  rw [List.getD_eq_getElem?_getD, List.getElem?_eq_getElem h]
  rfl
theorem gap_bd {gs : List Int} (ok : GapsOk gs) {k : Nat} (h : k < gs.length) : 1 ≤ gs.getD k 0 ∧ gs.getD k 0 ≤ 1000000000000 := ok.2 _ (List.mem_of_getElem? (getD_get h))
theorem pre_le {gs : List Int} (ok : GapsOk gs) : ∀ k, k ≤ gs.length → (k : Int) ≤ pre gs k ∧ pre gs k ≤ 1000000000000 * k
  | 0, _ => by rw [pre_zero]; omega
  | k + 1, h => by
    have ih := pre_le ok k (by omega)
    have b := gap_bd ok (k := k) (by omega)
    rw [pre_succ gs (getD_get (by omega))]
    omega
theorem pre_mono {gs : List Int} (ok : GapsOk gs) (i : Nat) : ∀ k, i + k ≤ gs.length → pre gs i + k ≤ pre gs (i + k)
  | 0, _ => by simp
  | k + 1, h => by
    have ih := pre_mono ok i k (by omega)
    have b := gap_bd ok (k := i + k) (by omega)
    rw [show i + (k + 1) = (i + k) + 1 by omega, pre_succ gs (getD_get (by omega))]
    omega
theorem per_bd {gs : List Int} (ok : GapsOk gs) {m : Nat} (h1 : 1 ≤ m) (h2 : m ≤ gs.length) : (m : Int) ≤ per gs m ∧ per gs m ≤ 20000000000000 := by
  have a := pre_mono ok (gs.length - m) m (by omega)
  have b := pre_le ok (gs.length - m) (by omega)
  have c := pre_le ok gs.length (Nat.le_refl _)
  have d := ok.1
  rw [show gs.length - m + m = gs.length by omega] at a
  unfold per
  omega

section
variable {P : Program} {w : World} {K : PySem.W.Frag} {mg : Str → Option Value} {base : Heap}
/-! ### a rule's attributes, read -/
section
variable {C p g t o : Addr} {gs : List Int} {tl : Tl} {H : Hp} {σ : L2.St} {i : Nat}
theorem rdG {Q : VK} (T : Txt K mg C) (R : RuleAt C H p g t o gs tl) (hi : σ[i]? = some (some (.ref p))) (q : Q (.ref g) H) : tFld K (tVar i) "_gaps" σ H Q := by
  obtain ⟨dx, h⟩ := R.ob
  exact ⟨_, hi, p, C, dx, _, _, rfl, h, T.cl, T.nG, flds_g _ _ _, q⟩
theorem rdT {Q : VK} (T : Txt K mg C) (R : RuleAt C H p g t o gs tl) (hi : σ[i]? = some (some (.ref p))) (q : Q (.ref t) H) : tFld K (tVar i) "_tail" σ H Q := by
  obtain ⟨dx, h⟩ := R.ob
  exact ⟨_, hi, p, C, dx, _, _, rfl, h, T.cl, T.nT, flds_t _ _ _, q⟩
theorem rdO {Q : VK} (T : Txt K mg C) (R : RuleAt C H p g t o gs tl) (hi : σ[i]? = some (some (.ref p))) (q : Q (.ref o) H) : tFld K (tVar i) "_offsets" σ H Q := by
  obtain ⟨dx, h⟩ := R.ob
  exact ⟨_, hi, p, C, dx, _, _, rfl, h, T.cl, T.nO, flds_o _ _ _, q⟩
theorem rdOx {te : TE} {Q : VK} (T : Txt K mg C) (R : RuleAt C H p g t o gs tl) (hi : σ[i]? = some (some (.ref p))) (q : te σ H fun y H2 => rIxL K (.ref o) y H2 Q) : tOp (rIxL K) (tFld K (tVar i) "_offsets") te σ H Q := by
  dsimp only [tOp]
  exact rdO T R hi q
theorem rdGx {te : TE} {Q : VK} (T : Txt K mg C) (R : RuleAt C H p g t o gs tl) (hi : σ[i]? = some (some (.ref p))) (q : te σ H fun y H2 => rIxL K (.ref g) y H2 Q) : tOp (rIxL K) (tFld K (tVar i) "_gaps") te σ H Q := by
  dsimp only [tOp]
  exact rdG T R hi q
theorem rdIs {s : Str} {Q : Bool → Hp → Prop} (T : Txt K mg C) (R : RuleAt C H p g t o gs tl) (hi : σ[i]? = some (some (.ref p))) (q : Q (decide (V.str tl.word = V.str s)) H) :
    tTest (tOp rEq (tOp (rIxT K) (tFld K (tVar i) "_tail") (tC (.int 0))) (tC (.str s))) σ H Q := by
  dsimp only [tTest, tOp]
  exact rdT T R hi ⟨t, _, _, _, rfl, rfl, SqT.of R.ht, tl.at0, rfl, _, rfl, q⟩
theorem rdNe {s : Str} {Q : Bool → Hp → Prop} (T : Txt K mg C) (R : RuleAt C H p g t o gs tl) (hi : σ[i]? = some (some (.ref p))) (q : Q (!decide (V.str tl.word = V.str s)) H) :
    tTest (tOp rNe (tOp (rIxT K) (tFld K (tVar i) "_tail") (tC (.int 0))) (tC (.str s))) σ H Q := by
  dsimp only [tTest, tOp]
  exact rdT T R hi ⟨t, _, _, _, rfl, rfl, SqT.of R.ht, tl.at0, rfl, _, rfl, q⟩
theorem rdB {b : Int} {Q : VK} (T : Txt K mg C) (R : RuleAt C H p g t o gs (.times b)) (hi : σ[i]? = some (some (.ref p))) (q : Q (.int b) H) : tOp (rIxT K) (tFld K (tVar i) "_tail") (tC (.int 1)) σ H Q :=
  rdT T R hi ⟨t, _, _, _, rfl, rfl, SqT.of R.ht, atI_nat (j := 1) rfl, q⟩
theorem rdN {m : Nat} {Q : VK} (T : Txt K mg C) (R : RuleAt C H p g t o gs (.rep m)) (hi : σ[i]? = some (some (.ref p))) (q : Q (.int (m : Int)) H) : tOp (rIxT K) (tFld K (tVar i) "_tail") (tC (.int 1)) σ H Q :=
  rdT T R hi ⟨t, _, _, _, rfl, rfl, SqT.of R.ht, atI_nat (j := 1) rfl, q⟩
theorem rdLast {Q : VK} (T : Txt K mg C) (R : RuleAt C H p g t o gs tl) (hi : σ[i]? = some (some (.ref p))) (h0 : 0 < gs.length) (q : Q (.int (lastG gs)) H) :
    tOp (rIxL K) (tFld K (tVar i) "_gaps") (tUn (rU fun i => .int (-i)) (tC (.int 1))) σ H Q :=
  rdG T R hi ⟨_, rfl, g, _, _, _, rfl, rfl, SqL.of R.hg, at_back1 (by rw [List.length_map]; exact h0) (by rw [List.length_map, List.getElem?_map, getD_get (by omega)]; rfl), q⟩
theorem rdLastO {Q : VK} (T : Txt K mg C) (R : RuleAt C H p g t o gs tl) (hi : σ[i]? = some (some (.ref p))) (q : Q (.int (pre gs gs.length)) H) :
    tOp (rIxL K) (tFld K (tVar i) "_offsets") (tUn (rU fun i => .int (-i)) (tC (.int 1))) σ H Q :=
  rdO T R hi ⟨_, rfl, o, _, _, _, rfl, rfl, SqL.of R.ho, at_back1 (by rw [List.length_map, offs_len]; omega) (by rw [List.length_map, offs_len, List.getElem?_map, offs_get gs (by omega)]; rfl), q⟩
end
/-! ### Rule.__init__ -/
def spInit (C : Addr) : Sp := fun vs H Q _ => ∃ (p dx a t : Addr) (gs : List Int) (tl : Tl), vs = [.ref p, .ref a, .ref t] ∧ H p = some (.ins C dx []) ∧ H a = some (.lst (gs.map V.int)) ∧ H t = some (.tup tl.vs) ∧ GapsOk gs ∧ TlOk gs.length tl ∧
  ∀ (g o : Addr) (H' : Hp), H g = none → H o = none → (∀ b u, H b = some u → b ≠ p → H' b = some u) → RuleAt C H' p g t o gs tl → Q .non H'
theorem scInit : FnScope ["self", "gaps", "tail"] ["self", "gaps", "tail"] (defScope s_Rule_ddinitdd) := ⟨rfl, rfl, rfl, by decide +kernel, rfl, by decide +kernel, by decide +kernel⟩
theorem ok_init {f C fA fB fS fi : Addr} {fd fdA fdB fdS fdi : FuncData} (F : Fun K "__init__" "Rule.__init__" s_Rule_ddinitdd f fd) (T : Txt K mg C) (FI : Fun K "is_integer" "is_integer" s_is_integer fi fdi) (bI : Binds K fdi ["value"] []) (mI : mg "is_integer" = some (.ref fi))
    (FA : Fun K "are_gaps" "are_gaps" s_are_gaps fA fdA) (bA : Binds K fdA ["value", "most"] []) (mA : mg "are_gaps" = some (.ref fA)) (FB : Fun K "_is_tail" "_is_tail" s_is_tail fB fdB) (bB : Binds K fdB ["value", "many"] []) (mB : mg "_is_tail" = some (.ref fB))
    (FS : Fun K "sums" "sums" s_sums fS fdS) (bS : Binds K fdS ["gaps"] []) (mS : mg "sums" = some (.ref fS)) : FnOk P w K mg base CX0 3 f fd ["self", "gaps", "tail"] (spInit C) := by
  have GA : FnOk P w K mg base CX0 2 fA fdA ["value", "most"] spAreGaps := ok_areGaps FA T FI bI mI
  have GB : FnOk P w K mg base CX0 2 fB fdB ["value", "many"] spIsTail := ok_isTail FB T FI bI mI
  have GS : FnOk P w K mg base CX0 1 fS fdS ["gaps"] spSums := ok_sums FS
  obtain ⟨t1, m1⟩ := T.mMost
  refine F.ok scInit (fun vs H Q E h => ?_) (fun cdv A outer s H vs Q E hr h => ?_)
  · obtain ⟨p, dx, a, t, gs, tl, rfl, _⟩ := h
    rfl
  · obtain ⟨p, dx, a, t, gs, tl, rfl, hp, ha, ht, okG, okT, k⟩ := h
    refine ⟨_, (pss_cons (ps_if (pt_not (pt_val (pe_call GA hr rfl mA FA.kp bA .nil pass0 (pa_cons (pv 1) (pa_cons (pe_glob (v := .int 20) rfl m1 ⟨_, rfl⟩) pa_nil))))) (pss_one ps_never) pss_nil) (pss_cons (ps_if (pt_not (pt_val (pe_call GB hr rfl mB FB.kp bB .nil pass0 (pa_cons (pv 2) (pa_cons (pe_callB call_len_seq (by rfl) T.len (by decide +kernel) (pa_cons (pv 1) pa_nil)) pa_nil))))) (pss_one ps_never) pss_nil) (pss_cons (ps_fld (pv 0) (pe_callTy call_list_of (by rfl) T.list (by decide +kernel) (pa_cons (pv 1) pa_nil)) rfl) (pss_cons (ps_fld (pv 0) (pe_callTy call_tuple_of (by rfl) T.tuple (by decide +kernel) (pa_cons (pv 2) pa_nil)) rfl) (pss_one (ps_fld (pv 0) (pe_call GS (hr.mono (by decide)) rfl mS FS.kp bS .nil pass0 (pa_cons (pe_fld (pv 0) rfl) pa_nil)) rfl)))))), ?_⟩
    refine ⟨_, rfl, a, gs, 20, rfl, ha, okG, okG.1, fun H1 S1 => ⟨true, rfl, iteF ?_⟩⟩
    refine ⟨_, rfl, _, rfl, a, _, rfl, .inl (SqL.of (S1 _ _ ha)), t, tl, gs.length, ?_, S1 _ _ ht, okT, fun H2 S2 => ⟨true, rfl, iteF ?_⟩⟩
    · rw [List.length_map]
      rfl
    have S := S1.trans S2
    refine ⟨_, rfl, a, _, rfl, .inl (SqL.of (S _ _ ha)), fun g hg2 => ?_⟩
    have hg : H g = none := S.free hg2
    have npg : p ≠ g := ne_of_none hp hg
    have ntg : t ≠ g := ne_of_none ht hg
    have nag : a ≠ g := ne_of_none ha hg
    have npt : t ≠ p := ne_of ht hp (by intro z; cases z)
    have npa : a ≠ p := ne_of ha hp (by intro z; cases z)
    refine ⟨_, rfl, p, C, dx, [], rfl, (by rw [upd_ne npg]; exact S _ _ hp), T.cl, T.nG, (by show 0 < 1000; decide), ?_⟩
    refine ⟨_, rfl, t, _, rfl, .inr ⟨SqT.of (by rw [upd_ne npt, upd_ne ntg]; exact S _ _ ht), ?_⟩⟩
    refine ⟨_, rfl, p, C, dx, _, rfl, upd_same, T.cl, T.nT, (by show 1 < 1000; decide), ?_⟩
    have hgl : (putF "_tail" (.ref t) (putF "_gaps" (.ref g) [])).lookup ("_gaps" : Str) = some (V.ref g) := by
      rw [lookup_putF, if_neg kGT, lookup_putF, if_pos rfl]
    refine ⟨_, rfl, p, C, dx, _, _, rfl, upd_same, T.cl, T.nG, hgl, ?_⟩
    refine ⟨g, gs, rfl, (by rw [upd_ne npg.symm, upd_ne npg.symm, upd_same]), (by have := okG.1; omega), fun o H3 ho S3 ho3 => ?_⟩
    have hp3 := S3 _ _ (upd_same (H := upd (upd H2 g (.lst (gs.map V.int))) p (.ins C dx (putF "_gaps" (.ref g) []))) (a := p) (o := .ins C dx (putF "_tail" (.ref t) (putF "_gaps" (.ref g) []))))
    have npo : p ≠ o := ne_of_none (upd_same (H := upd (upd H2 g (.lst (gs.map V.int))) p (.ins C dx (putF "_gaps" (.ref g) []))) (a := p)) ho
    have ngo : g ≠ o := by
      refine ne_of_none (H := upd (upd (upd H2 g (.lst (gs.map V.int))) p (.ins C dx (putF "_gaps" (.ref g) []))) p (.ins C dx (putF "_tail" (.ref t) (putF "_gaps" (.ref g) [])))) (o := .lst (gs.map V.int)) ?_ ho
      rw [upd_ne npg.symm, upd_ne npg.symm, upd_same]
    have hoH : H o = none := by
      refine S.free ?_
      rw [upd_ne npo.symm, upd_ne npo.symm, upd_ne ngo.symm] at ho
      exact ho
    refine ⟨_, rfl, p, C, dx, _, rfl, hp3, T.cl, T.nO, (by show 2 < 1000; decide), ?_⟩
    refine k g o _ hg hoH (fun b u e nb => ?_) ⟨⟨dx, upd_same⟩, ?_, ?_, ?_, okG, okT⟩
    · rw [upd_ne nb]
      refine S3 _ _ ?_
      rw [upd_ne nb, upd_ne nb, upd_ne (ne_of_none e hg)]
      exact S _ _ e
    · rw [upd_ne npg.symm]
      refine S3 _ _ ?_
      rw [upd_ne npg.symm, upd_ne npg.symm, upd_same]
    · rw [upd_ne npt]
      refine S3 _ _ ?_
      rw [upd_ne npt, upd_ne npt, upd_ne ntg]
      exact S _ _ ht
    · rw [upd_ne npo.symm]
      exact ho3

end
end RS
namespace RS
open PySem L2
section
variable {P : Program} {w : World} {K : PySem.W.Frag} {mg : Str → Option Value} {base : Heap}
/-! ### attempts, _first_repeating, period -/
def attV (gs : List Int) : Tl → V
  | .fin => .int ((gs.length : Int) + 1)
  | _ => .non
def spAtt (C : Addr) : Sp := fun vs H Q _ => ∃ (p g t o : Addr) (gs : List Int) (tl : Tl), vs = [.ref p] ∧ RuleAt C H p g t o gs tl ∧ Q (attV gs tl) H
theorem scSelf_attempts : FnScope ["self"] ["self"] (defScope s_Rule_attempts) := ⟨rfl, rfl, rfl, by decide +kernel, rfl, by decide +kernel, by decide +kernel⟩
theorem ok_attempts {f C : Addr} {fd : FuncData} (F : Fun K "attempts" "Rule.attempts" s_Rule_attempts f fd) (T : Txt K mg C) : FnOk P w K mg base CX0 1 f fd ["self"] (spAtt C) := by
  refine F.ok scSelf_attempts (fun vs H Q E h => ?_) (fun cdv A outer s H vs Q E hr h => ?_)
  · obtain ⟨p, g, t, o, gs, tl, rfl, _⟩ := h
    rfl
  · obtain ⟨p, g, t, o, gs, tl, rfl, R, k⟩ := h
    refine ⟨_, (pss_cons (ps_if (pt_cmpR op_eq (pe_ix ix_tup (pe_fld (pv 0) rfl) pe_int (fun _ _ => rfl)) pe_str (nomark _)) (pss_one (ps_ret (pe_callB call_len_seq (by rfl) T.len (by decide +kernel) (pa_cons (pe_fld (pv 0) rfl) pa_nil)))) pss_nil) (pss_one (ps_ret pe_non))), ?_⟩
    refine rdIs T R rfl ?_
    cases tl with
    | fin =>
      refine iteTb wEE ?_
      refine rdO T R rfl ⟨o, _, rfl, .inl (SqL.of R.ho), ?_⟩
      rw [List.length_map, offs_len]
      exact k
    | times b => exact iteFb wTE k
    | rep m => exact iteFb wRE k
def spFR (C : Addr) : Sp := fun vs H Q _ => ∃ (p g t o : Addr) (gs : List Int) (m : Nat), vs = [.ref p] ∧ RuleAt C H p g t o gs (.rep m) ∧ Q (.int ((gs.length - m : Nat) : Int)) H
theorem scSelf_fr : FnScope ["self"] ["self"] (defScope s_Rule_first_repeating) := ⟨rfl, rfl, rfl, by decide +kernel, rfl, by decide +kernel, by decide +kernel⟩
def frV (gs : List Int) : Tl → V
  | .rep m => .int ((gs.length - m : Nat) : Int)
  | _ => .non
def spFRA (C : Addr) : Sp := fun vs H Q _ => ∃ (p g t o : Addr) (gs : List Int) (tl : Tl), vs = [.ref p] ∧ RuleAt C H p g t o gs tl ∧ Q (frV gs tl) H
theorem ok_frA {f C : Addr} {fd : FuncData} (F : Fun K "first_repeating" "Rule.first_repeating" s_Rule_first_repeating f fd) (T : Txt K mg C) : FnOk P w K mg base CX0 1 f fd ["self"] (spFRA C) := by
  refine F.ok scSelf_fr (fun vs H Q E h => ?_) (fun cdv A outer s H vs Q E hr h => ?_)
  · obtain ⟨p, g, t, o, gs, tl, rfl, _⟩ := h
    rfl
  · obtain ⟨p, g, t, o, gs, tl, rfl, R, k⟩ := h
    refine ⟨_, (pss_cons (ps_if (pt_cmpR op_ne (pe_ix ix_tup (pe_fld (pv 0) rfl) pe_int (fun _ _ => rfl)) pe_str (nomark _)) (pss_one (ps_ret pe_non)) pss_nil) (pss_one (ps_ret (pe_op op_sub (pe_callB call_len_seq (by rfl) T.len (by decide +kernel) (pa_cons (pe_fld (pv 0) rfl) pa_nil)) (pe_ix ix_tup (pe_fld (pv 0) rfl) pe_int (fun _ _ => rfl)))))), ?_⟩
    refine rdNe T R rfl ?_
    cases tl with
    | fin => exact iteTb (congrArg not wER) k
    | times b => exact iteTb (congrArg not wTR) k
    | rep m =>
      refine iteFb (congrArg not wRR) ?_
      refine rdG T R rfl ⟨g, _, rfl, .inl (SqL.of R.hg), rdN T R rfl ⟨_, _, rfl, rfl, ?_⟩⟩
      have e : ((((gs.map V.int).length : Nat) : Int) - (m : Int)) = ((gs.length - m : Nat) : Int) := by
        have := R.okT.2
        rw [List.length_map]
        omega
      have k' : Q (.int ((gs.length - m : Nat) : Int)) H := k
      rw [← e] at k'
      exact k'
theorem ok_fr {f C : Addr} {fd : FuncData} (F : Fun K "first_repeating" "Rule.first_repeating" s_Rule_first_repeating f fd) (T : Txt K mg C) : FnOk P w K mg base CX0 1 f fd ["self"] (spFR C) := by
  refine F.ok scSelf_fr (fun vs H Q E h => ?_) (fun cdv A outer s H vs Q E hr h => ?_)
  · obtain ⟨p, g, t, o, gs, tl, rfl, _⟩ := h
    rfl
  · obtain ⟨p, g, t, o, gs, m, rfl, R, k⟩ := h
    refine ⟨_, (pss_cons (ps_if (pt_cmpR op_ne (pe_ix ix_tup (pe_fld (pv 0) rfl) pe_int (fun _ _ => rfl)) pe_str (nomark _)) (pss_one (ps_ret pe_non)) pss_nil) (pss_one (ps_ret (pe_op op_sub (pe_callB call_len_seq (by rfl) T.len (by decide +kernel) (pa_cons (pe_fld (pv 0) rfl) pa_nil)) (pe_ix ix_tup (pe_fld (pv 0) rfl) pe_int (fun _ _ => rfl)))))), ?_⟩
    refine rdNe T R rfl (iteFb (congrArg not wRR) ?_)
    refine rdG T R rfl ⟨g, _, rfl, .inl (SqL.of R.hg), rdN T R rfl ⟨_, _, rfl, rfl, ?_⟩⟩
    have e : ((((gs.map V.int).length : Nat) : Int) - (m : Int)) = ((gs.length - m : Nat) : Int) := by
      have := R.okT.2
      rw [List.length_map]
      omega
    rw [← e] at k
    exact k
end
end RS
namespace RS
open PySem L2
section
variable {P : Program} {w : World} {K : PySem.W.Frag} {mg : Str → Option Value} {base : Heap}
def perV (gs : List Int) : Tl → V
  | .rep m => .int (per gs m)
  | _ => .non
def spPer (C : Addr) : Sp := fun vs H Q _ => ∃ (p g t o : Addr) (gs : List Int) (tl : Tl), vs = [.ref p] ∧ RuleAt C H p g t o gs tl ∧ Q (perV gs tl) H
theorem scSelf_per : FnScope ["self"] ["self"] (defScope s_Rule_period) := ⟨rfl, rfl, rfl, by decide +kernel, rfl, by decide +kernel, by decide +kernel⟩
theorem ok_per {f C fR : Addr} {fd fdR : FuncData} (F : Fun K "period" "Rule.period" s_Rule_period f fd) (T : Txt K mg C) (FR : Fun K "first_repeating" "Rule.first_repeating" s_Rule_first_repeating fR fdR) (bR : Binds K fdR ["self"] []) (mR : Meth K C "first_repeating" fR) : FnOk P w K mg base CX0 2 f fd ["self"] (spPer C) := by
  have GR : FnOk P w K mg base CX0 1 fR fdR ["self"] (spFR C) := ok_fr FR T
  refine F.ok scSelf_per (fun vs H Q E h => ?_) (fun cdv A outer s H vs Q E hr h => ?_)
  · obtain ⟨p, g, t, o, gs, tl, rfl, _⟩ := h
    rfl
  · obtain ⟨p, g, t, o, gs, tl, rfl, R, k⟩ := h
    refine ⟨_, (pss_cons (ps_if (pt_cmpR op_ne (pe_ix ix_tup (pe_fld (pv 0) rfl) pe_int (fun _ _ => rfl)) pe_str (nomark _)) (pss_one (ps_ret pe_non)) pss_nil) (pss_one (ps_ret (pe_op op_sub (pe_ix ix_list (pe_fld (pv 0) rfl) (pe_un un_neg pe_int) (fun _ _ => rfl)) (pe_ix ix_list (pe_fld (pv 0) rfl) (pe_meth0 (pv 0) T.cl mR GR hr bR .nil pass0) (fun _ _ => rfl)))))), ?_⟩
    refine rdNe T R rfl ?_
    cases tl with
    | fin => exact iteTb (congrArg not wER) k
    | times b => exact iteTb (congrArg not wTR) k
    | rep m =>
      refine iteFb (congrArg not wRR) ?_
      refine rdLastO T R rfl (rdO T R rfl ?_)
      obtain ⟨dx, hob⟩ := R.ob
      refine ⟨_, rfl, p, dx, _, rfl, hob, flds_no _ _ _ (by decide +kernel) (by decide +kernel) (by decide +kernel), p, g, t, o, gs, m, rfl, R, ?_⟩
      exact ⟨o, _, _, _, rfl, rfl, SqL.of R.ho, at_map (offs_get gs (by omega)), _, _, rfl, rfl, k⟩
end
end RS
namespace RS
open PySem L2
section
variable {P : Program} {w : World} {K : PySem.W.Frag} {mg : Str → Option Value} {base : Heap}
/-! ### Rule.gaps, tail, least_gap -/
def spGaps (C : Addr) : Sp := fun vs H Q _ => ∃ (p g t o : Addr) (gs : List Int) (tl : Tl), vs = [.ref p] ∧ RuleAt C H p g t o gs tl ∧ ∀ l, H l = none → Q (.ref l) (upd H l (.lst (gs.map V.int)))
theorem scGaps : FnScope ["self"] ["self"] (defScope s_Rule_gaps) := ⟨rfl, rfl, rfl, by decide +kernel, rfl, by decide +kernel, by decide +kernel⟩
theorem ok_gaps {f C : Addr} {fd : FuncData} (F : Fun K "gaps" "Rule.gaps" s_Rule_gaps f fd) (T : Txt K mg C) : FnOk P w K mg base CX0 1 f fd ["self"] (spGaps C) := by
  refine F.ok scGaps (fun vs H Q E h => ?_) (fun cdv A outer s H vs Q E hr h => ?_)
  · obtain ⟨p, g, t, o, gs, tl, rfl, _⟩ := h
    rfl
  · obtain ⟨p, g, t, o, gs, tl, rfl, R, k⟩ := h
    refine ⟨_, (pss_one (ps_ret (pe_callTy call_list_of (by rfl) T.list (by decide +kernel) (pa_cons (pe_fld (pv 0) rfl) pa_nil)))), ?_⟩
    exact rdG T R rfl ⟨g, _, rfl, .inl (SqL.of R.hg), k⟩
def spTail (C : Addr) : Sp := fun vs H Q _ => ∃ (p g t o : Addr) (gs : List Int) (tl : Tl), vs = [.ref p] ∧ RuleAt C H p g t o gs tl ∧ Q (.ref t) H
theorem scTail : FnScope ["self"] ["self"] (defScope s_Rule_tail) := ⟨rfl, rfl, rfl, by decide +kernel, rfl, by decide +kernel, by decide +kernel⟩
theorem ok_tail {f C : Addr} {fd : FuncData} (F : Fun K "tail" "Rule.tail" s_Rule_tail f fd) (T : Txt K mg C) : FnOk P w K mg base CX0 1 f fd ["self"] (spTail C) := by
  refine F.ok scTail (fun vs H Q E h => ?_) (fun cdv A outer s H vs Q E hr h => ?_)
  · obtain ⟨p, g, t, o, gs, tl, rfl, _⟩ := h
    rfl
  · obtain ⟨p, g, t, o, gs, tl, rfl, R, k⟩ := h
    refine ⟨_, (pss_one (ps_ret (pe_fld (pv 0) rfl))), ?_⟩
    exact rdT T R rfl k
end
end RS
namespace RS
open PySem L2
section
variable {P : Program} {w : World} {K : PySem.W.Frag} {mg : Str → Option Value} {base : Heap}
theorem end_cmp {p : Prop} [Decidable p] {A B : Prop} (hp : ¬ p) (h : B) : if decide p = true then A else B := iteFb (decide_eq_false hp) h
/-! ### _check_attempt -/
def spCheck (C : Addr) : Sp := fun vs H Q _ => ∃ (p g t o : Addr) (gs : List Int) (tl : Tl) (n : Nat), vs = [.ref p, .int (n : Int)] ∧ RuleAt C H p g t o gs tl ∧ AttOk gs tl n ∧ Q .non H
theorem scCheck : FnScope ["self", "attempt"] ["self", "attempt"] (defScope s_Rule_check_attempt) := ⟨rfl, rfl, rfl, by decide +kernel, rfl, by decide +kernel, by decide +kernel⟩
theorem ok_check {f C fi : Addr} {fd fdi : FuncData} (F : Fun K "_check_attempt" "Rule._check_attempt" s_Rule_check_attempt f fd) (T : Txt K mg C) (FI : Fun K "is_integer" "is_integer" s_is_integer fi fdi) (bI : Binds K fdi ["value"] []) (mI : mg "is_integer" = some (.ref fi)) :
    FnOk P w K mg base CX0 2 f fd ["self", "attempt"] (spCheck C) := by
  have GI : FnOk P w K mg base CX0 1 fi fdi ["value"] spIsInt := ok_isInt FI T
  obtain ⟨t1, m1⟩ := T.mLast
  refine F.ok scCheck (fun vs H Q E h => ?_) (fun cdv A outer s H vs Q E hr h => ?_)
  · obtain ⟨p, g, t, o, gs, tl, n, rfl, _⟩ := h
    rfl
  · obtain ⟨p, g, t, o, gs, tl, n, rfl, R, ok, k⟩ := h
    refine ⟨_, (pss_cons (ps_if (PW.pt (pw_or (pt_not (pt_val (pe_call GI hr rfl mI FI.kp bI .nil pass0 (pa_cons (pv 1) pa_nil)))) (pw_or1 (pt_cmpR op_lt (pv 1) pe_int (nomark _))))) (pss_one ps_never) pss_nil) (pss_cons (ps_if (PW.pt (pw_and (pt_cmpR op_eq (pe_ix ix_tup (pe_fld (pv 0) rfl) pe_int (fun _ _ => rfl)) pe_str (nomark _)) (pw_and1 (pt_cmpR op_ge (pv 1) (pe_callB call_len_seq (by rfl) T.len (by decide +kernel) (pa_cons (pe_fld (pv 0) rfl) pa_nil)) (nomark _))))) (pss_one ps_never) pss_nil) (pss_one (ps_if (PW.pt (pw_and (pt_cmpR op_eq (pe_ix ix_tup (pe_fld (pv 0) rfl) pe_int (fun _ _ => rfl)) pe_str (nomark _)) (pw_and1 (pt_cmpR op_gt (pv 1) (pe_glob (v := .int 1000) rfl m1 ⟨_, rfl⟩) (nomark _))))) (pss_one ps_never) pss_nil)))), ?_⟩
    refine ⟨_, rfl, _, rfl, true, rfl, iteF ⟨_, rfl, _, _, rfl, rfl, _, rfl, iteFb (decide_eq_false (by omega)) ?_⟩⟩
    refine rdIs T R rfl ?_
    cases tl with
    | fin =>
      refine iteTb wEE ?_
      refine ⟨_, rfl, rdO T R rfl ⟨o, _, rfl, .inl (SqL.of R.ho), _, _, rfl, rfl, _, rfl, iteFb (decide_eq_false ?_) ?_⟩⟩
      · rw [List.length_map, offs_len]
        have : n ≤ gs.length := ok
        omega
      · exact rdIs T R rfl (iteFb wET (iteF k))
    | times b =>
      refine iteFb wTE ?_
      refine iteF ?_
      refine rdIs T R rfl (iteTb wTT ⟨_, rfl, _, _, rfl, rfl, _, rfl, iteFb (decide_eq_false ?_) k⟩)
      have : n ≤ 1000 := ok
      omega
    | rep m =>
      refine iteFb wRE ?_
      refine iteF ?_
      exact rdIs T R rfl (iteFb wRT (iteF k))
/-! ### _offset_of -/
def spOff (C : Addr) : Sp := fun vs H Q _ => ∃ (p g t o : Addr) (gs : List Int) (tl : Tl) (n : Nat), vs = [.ref p, .int (n : Int)] ∧ RuleAt C H p g t o gs tl ∧ AttOk gs tl n ∧ ∀ H', Same H H' → Q (.int (off gs tl n)) H'
theorem scOff : FnScope ["self", "attempt", "further", "factor", "periods", "rest"] ["self", "attempt"] (defScope s_Rule_offset_of) := ⟨rfl, rfl, rfl, by decide +kernel, rfl, by decide +kernel, by decide +kernel⟩
theorem ok_off {f C fR fP fW : Addr} {fd fdR fdP fdW : FuncData} (F : Fun K "_offset_of" "Rule._offset_of" s_Rule_offset_of f fd) (T : Txt K mg C) (FR : Fun K "first_repeating" "Rule.first_repeating" s_Rule_first_repeating fR fdR) (bR : Binds K fdR ["self"] []) (mR : Meth K C "first_repeating" fR)
    (FP : Fun K "period" "Rule.period" s_Rule_period fP fdP) (bP : Binds K fdP ["self"] []) (mP : Meth K C "period" fP) (FW : Fun K "_power" "_power" s_power fW fdW) (bW : Binds K fdW ["base", "exponent"] []) (mW : mg "_power" = some (.ref fW)) :
    FnOk P w K mg base CX0 3 f fd ["self", "attempt"] (spOff C) := by
  have GR : FnOk P w K mg base CX0 1 fR fdR ["self"] (spFR C) := ok_fr FR T
  have GP : FnOk P w K mg base CX0 2 fP fdP ["self"] (spPer C) := ok_per FP T FR bR mR
  have GW : FnOk P w K mg base CX0 1 fW fdW ["base", "exponent"] spPower := ok_power FW
  refine F.ok scOff (fun vs H Q E h => ?_) (fun cdv A outer s H vs Q E hr h => ?_)
  · obtain ⟨p, g, t, o, gs, tl, n, rfl, _⟩ := h
    rfl
  · obtain ⟨p, g, t, o, gs, tl, n, rfl, R, ok, k⟩ := h
    have hr1 := hr.mono (show 1 ≤ 2 by decide)
    refine ⟨_, (pss_cons (ps_if (pt_cmpR op_lt (pv 1) (pe_callB call_len_seq (by rfl) T.len (by decide +kernel) (pa_cons (pe_fld (pv 0) rfl) pa_nil)) (nomark _)) (pss_one (ps_ret (pe_ix ix_list (pe_fld (pv 0) rfl) (pv 1) (fun _ _ => rfl)))) pss_nil) (pss_cons (ps_set (i := 2) scOff.nd rfl (Or.inl rfl) (pe_op op_sub (pv 1) (pe_callB call_len_seq (by rfl) T.len (by decide +kernel) (pa_cons (pe_fld (pv 0) rfl) pa_nil)))) (pss_cons (ps_if (pt_cmpR op_eq (pe_ix ix_tup (pe_fld (pv 0) rfl) pe_int (fun _ _ => rfl)) pe_str (nomark _)) (pss_cons (ps_set (i := 3) scOff.nd rfl (Or.inl rfl) (pe_ix ix_tup (pe_fld (pv 0) rfl) pe_int (fun _ _ => rfl))) (pss_one (ps_ret (pe_op op_add (pe_ix ix_list (pe_fld (pv 0) rfl) (pe_un un_neg pe_int) (fun _ _ => rfl)) (pe_op op_fdiv (pe_op op_mul (pe_op op_mul (pe_ix ix_list (pe_fld (pv 0) rfl) (pe_un un_neg pe_int) (fun _ _ => rfl)) (pv 3)) (pe_op op_sub (pe_call GW hr1 rfl mW FW.kp bW .nil pass0 (pa_cons (pv 3) (pa_cons (pv 2) pa_nil))) pe_int)) (pe_op op_sub (pv 3) pe_int)))))) pss_nil) (pss_cons (ps_asg (pe_callB call_divmod (by rfl) T.divmod (by decide +kernel) (pa_cons (pv 2) (pa_cons (pe_ix ix_tup (pe_fld (pv 0) rfl) pe_int (fun _ _ => rfl)) pa_nil))) (pg_tup rfl (pgs_cons (pg_name (i := 4) scOff.nd rfl (Or.inl rfl)) (pgs_cons (pg_name (i := 5) scOff.nd rfl (Or.inl rfl)) pgs_nil)))) (pss_one (ps_ret (pe_op op_add (pe_ix ix_list (pe_fld (pv 0) rfl) (pe_op op_add (pe_meth0 (pv 0) T.cl mR GR hr1 bR .nil pass0) (pv 5)) (fun _ _ => rfl)) (pe_op op_mul (pe_op op_add (pv 4) pe_int) (pe_meth0 (pv 0) T.cl mP GP hr bP .nil pass0))))))))), ?_⟩
    refine ⟨_, rfl, rdO T R rfl ⟨o, _, rfl, .inl (SqL.of R.ho), _, _, rfl, rfl, _, rfl, ?_⟩⟩
    rw [List.length_map, offs_len]
    by_cases hn : n ≤ gs.length
    · refine iteTb (decide_eq_true (by omega)) ?_
      refine rdOx T R rfl ⟨_, rfl, o, _, _, _, rfl, rfl, SqL.of R.ho, at_map (offs_get gs hn), ?_⟩
      have e : off gs tl n = pre gs n := if_pos hn
      rw [← e]
      exact k H (Same.refl H)
    · refine end_cmp (by omega) ?_
      refine ⟨_, rfl, ?_⟩
      refine rdG T R rfl ⟨g, _, rfl, .inl (SqL.of R.hg), _, _, rfl, rfl, ?_⟩
      have ef : ((n : Int) - (((gs.map V.int).length : Nat) : Int)) = ((n - gs.length : Nat) : Int) := by
        rw [List.length_map]
        omega
      show tSeq _ _ _ (List.set _ 2 (some (V.int ((n : Int) - (((gs.map V.int).length : Nat) : Int))))) H
      rw [ef]
      refine rdIs T R rfl ?_
      cases tl with
      | fin => exact absurd ok hn
      | times b =>
        have hl := R.okT.1
        have hb0 := R.okT.2.1
        have hb1 := R.okT.2.2
        have hn1 : n ≤ 1000 := ok
        have hg := gap_bd R.okG (k := gs.length - 1) (by omega)
        have hg : 1 ≤ lastG gs ∧ lastG gs ≤ 1000000000000 := hg
        have hgb1 : lastG gs * b ≤ 1000000000000 * 1000 := Int.mul_le_mul hg.2 hb1 (by omega) (by omega)
        have hgb0 : 0 ≤ lastG gs * b := Int.mul_nonneg (by omega) (by omega)
        refine iteTb wTT ?_
        refine rdB T R rfl ?_
        refine rdLastO T R rfl ?_
        refine rdLast T R rfl hl ⟨_, rfl, _, _, rfl, rfl, .inl ⟨by omega, by omega⟩, ?_⟩
        refine ⟨_, rfl, _, rfl, b, n - gs.length, rfl, by omega, by omega, by omega, _, _, rfl, rfl, _, _, rfl, rfl, .inl ⟨by omega, by omega⟩, ?_⟩
        refine ⟨_, rfl, _, _, rfl, rfl, _, _, rfl, rfl, ⟨by omega, by omega⟩, _, _, rfl, rfl, ?_⟩
        have e : off gs (.times b) n = pre gs gs.length + lastG gs * b * (b ^ (n - gs.length) - 1) / (b - 1) := if_neg hn
        rw [e] at k
        exact k H (Same.refl H)
      | rep m =>
        have hm0 := R.okT.1
        have hm1 := R.okT.2
        have hp := per_bd R.okG hm0 hm1
        refine iteFb wRT ?_
        refine ⟨_, rfl, ?_⟩
        refine rdN T R rfl ⟨_, _, rfl, ⟨by omega, by have := R.okG.1; omega⟩, fun q hq => ?_⟩
        have S : Same H (upd H q (.tup [.int (((n - gs.length : Nat) : Int) / (m : Int)), .int (((n - gs.length : Nat) : Int) % (m : Int))])) := same_new hq
        have R2 := R.mono S
        refine ⟨q, _, rfl, SqT.of upd_same, rfl, _, _, rfl, _, _, rfl, rfl, ?_⟩
        obtain ⟨dx, hob⟩ := R2.ob
        have e1 : (((n - gs.length : Nat) : Int) % (m : Int)) = (((n - gs.length) % m : Nat) : Int) := rfl
        have e2 : (((n - gs.length : Nat) : Int) / (m : Int)) = (((n - gs.length) / m : Nat) : Int) := rfl
        have hr0 : (n - gs.length) % m < m := Nat.mod_lt _ (by omega)
        have nF : (flds g t o).lookup ("first_repeating" : Str) = none := flds_no _ _ _ (by decide +kernel) (by decide +kernel) (by decide +kernel)
        have nP : (flds g t o).lookup ("period" : Str) = none := flds_no _ _ _ (by decide +kernel) (by decide +kernel) (by decide +kernel)
        refine rdOx T R2 rfl ⟨_, rfl, p, dx, _, rfl, hob, nF, p, g, t, o, gs, m, rfl, R2, _, rfl, _, _, rfl, rfl, ?_⟩
        refine ⟨o, _, _, .int (pre gs (gs.length - m + (n - gs.length) % m)), rfl, rfl, SqL.of R2.ho, ?_, ?_⟩
        · rw [e1, ← Int.natCast_add]
          exact at_map (offs_get gs (by omega))
        · refine ⟨_, rfl, _, _, rfl, rfl, _, rfl, p, dx, _, rfl, hob, nP, p, g, t, o, gs, .rep m, rfl, R2, ?_⟩
          refine ⟨_, _, rfl, rfl, .inr ⟨by omega, by omega⟩, _, _, rfl, rfl, ?_⟩
          have e : off gs (.rep m) n = pre gs (gs.length - m + (n - gs.length) % m) + (((n - gs.length) / m : Nat) + 1) * per gs m := if_neg hn
          rw [e] at k
          exact k _ S
/-! ### offset -/
theorem scOffset : FnScope ["self", "attempt"] ["self", "attempt"] (defScope s_Rule_offset) := ⟨rfl, rfl, rfl, by decide +kernel, rfl, by decide +kernel, by decide +kernel⟩
theorem ok_offset {f C fC fO : Addr} {fd fdC fdO : FuncData} (F : Fun K "offset" "Rule.offset" s_Rule_offset f fd) (T : Txt K mg C) (mC : Meth K C "_check_attempt" fC) (bC : Binds K fdC ["self", "attempt"] []) (mO : Meth K C "_offset_of" fO) (bO : Binds K fdO ["self", "attempt"] [])
    (GC : FnOk P w K mg base CX0 2 fC fdC ["self", "attempt"] (spCheck C)) (GO : FnOk P w K mg base CX0 3 fO fdO ["self", "attempt"] (spOff C)) : FnOk P w K mg base CX0 4 f fd ["self", "attempt"] (spOff C) := by
  refine F.ok scOffset (fun vs H Q E h => ?_) (fun cdv A outer s H vs Q E hr h => ?_)
  · obtain ⟨p, g, t, o, gs, tl, n, rfl, _⟩ := h
    rfl
  · obtain ⟨p, g, t, o, gs, tl, n, rfl, R, ok, k⟩ := h
    refine ⟨_, (pss_cons (ps_expr (pe_meth (pv 0) T.cl mC GC (hr.mono (by decide)) bC .nil pass0 (pa_cons (pv 1) pa_nil))) (pss_one (ps_ret (pe_meth (pv 0) T.cl mO GO hr bO .nil pass0 (pa_cons (pv 1) pa_nil))))), ?_⟩
    obtain ⟨dx, hob⟩ := R.ob
    refine ⟨_, rfl, p, dx, _, rfl, hob, flds_no _ _ _ (by decide +kernel) (by decide +kernel) (by decide +kernel), _, rfl, p, g, t, o, gs, tl, n, rfl, R, ok, ?_⟩
    exact ⟨_, rfl, p, dx, _, rfl, hob, flds_no _ _ _ (by decide +kernel) (by decide +kernel) (by decide +kernel), _, rfl, p, g, t, o, gs, tl, n, rfl, R, ok, k⟩
/-! ### gap -/
def spGap (C : Addr) : Sp := fun vs H Q _ => ∃ (p g t o : Addr) (gs : List Int) (tl : Tl) (n : Nat), vs = [.ref p, .int (n : Int)] ∧ RuleAt C H p g t o gs tl ∧ AttOk gs tl n ∧ (tl = .fin → n < gs.length) ∧ Q (.int (gapf gs tl n)) H
theorem scGap : FnScope ["self", "attempt", "further"] ["self", "attempt"] (defScope s_Rule_gap) := ⟨rfl, rfl, rfl, by decide +kernel, rfl, by decide +kernel, by decide +kernel⟩
theorem ok_gap {f C fC fA fR fW : Addr} {fd fdC fdA fdR fdW : FuncData} (F : Fun K "gap" "Rule.gap" s_Rule_gap f fd) (T : Txt K mg C) (mC : Meth K C "_check_attempt" fC) (bC : Binds K fdC ["self", "attempt"] [])
    (GC : FnOk P w K mg base CX0 2 fC fdC ["self", "attempt"] (spCheck C)) (FA : Fun K "attempts" "Rule.attempts" s_Rule_attempts fA fdA) (bA : Binds K fdA ["self"] []) (mA : Meth K C "attempts" fA)
    (FR : Fun K "first_repeating" "Rule.first_repeating" s_Rule_first_repeating fR fdR) (bR : Binds K fdR ["self"] []) (mR : Meth K C "first_repeating" fR)
    (FW : Fun K "_power" "_power" s_power fW fdW) (bW : Binds K fdW ["base", "exponent"] []) (mW : mg "_power" = some (.ref fW)) : FnOk P w K mg base CX0 3 f fd ["self", "attempt"] (spGap C) := by
  have GA : FnOk P w K mg base CX0 1 fA fdA ["self"] (spAtt C) := ok_attempts FA T
  have GR : FnOk P w K mg base CX0 1 fR fdR ["self"] (spFR C) := ok_fr FR T
  have GW : FnOk P w K mg base CX0 1 fW fdW ["base", "exponent"] spPower := ok_power FW
  refine F.ok scGap (fun vs H Q E h => ?_) (fun cdv A outer s H vs Q E hr h => ?_)
  · obtain ⟨p, g, t, o, gs, tl, n, rfl, _⟩ := h
    rfl
  · obtain ⟨p, g, t, o, gs, tl, n, rfl, R, ok, okf, k⟩ := h
    have hr1 := hr.mono (show 1 ≤ 2 by decide)
    refine ⟨_, (pss_cons (ps_expr (pe_meth (pv 0) T.cl mC GC hr bC .nil pass0 (pa_cons (pv 1) pa_nil))) (pss_cons (ps_if (pt_cmpR op_eq (pe_op op_add (pv 1) pe_int) (pe_meth0 (pv 0) T.cl mA GA hr1 bA .nil pass0) (nomark _)) (pss_one ps_never) pss_nil) (pss_cons (ps_if (pt_cmpR op_lt (pv 1) (pe_callB call_len_seq (by rfl) T.len (by decide +kernel) (pa_cons (pe_fld (pv 0) rfl) pa_nil)) (nomark _)) (pss_one (ps_ret (pe_ix ix_list (pe_fld (pv 0) rfl) (pv 1) (fun _ _ => rfl)))) pss_nil) (pss_cons (ps_set (i := 2) scGap.nd rfl (Or.inl rfl) (pe_op op_sub (pv 1) (pe_callB call_len_seq (by rfl) T.len (by decide +kernel) (pa_cons (pe_fld (pv 0) rfl) pa_nil)))) (pss_cons (ps_if (pt_cmpR op_eq (pe_ix ix_tup (pe_fld (pv 0) rfl) pe_int (fun _ _ => rfl)) pe_str (nomark _)) (pss_one (ps_ret (pe_op op_mul (pe_ix ix_list (pe_fld (pv 0) rfl) (pe_un un_neg pe_int) (fun _ _ => rfl)) (pe_call GW hr1 rfl mW FW.kp bW .nil pass0 (pa_cons (pe_ix ix_tup (pe_fld (pv 0) rfl) pe_int (fun _ _ => rfl)) (pa_cons (pe_op op_add (pv 2) pe_int) pa_nil)))))) pss_nil) (pss_one (ps_ret (pe_ix ix_list (pe_fld (pv 0) rfl) (pe_op op_add (pe_meth0 (pv 0) T.cl mR GR hr1 bR .nil pass0) (pe_op op_mod (pv 2) (pe_ix ix_tup (pe_fld (pv 0) rfl) pe_int (fun _ _ => rfl)))) (fun _ _ => rfl))))))))), ?_⟩
    obtain ⟨dx, hob⟩ := R.ob
    have nF : (flds g t o).lookup ("first_repeating" : Str) = none := flds_no _ _ _ (by decide +kernel) (by decide +kernel) (by decide +kernel)
    have nA : (flds g t o).lookup ("attempts" : Str) = none := flds_no _ _ _ (by decide +kernel) (by decide +kernel) (by decide +kernel)
    refine ⟨_, rfl, p, dx, _, rfl, hob, flds_no _ _ _ (by decide +kernel) (by decide +kernel) (by decide +kernel), _, rfl, p, g, t, o, gs, tl, n, rfl, R, ok, ?_⟩
    refine ⟨_, rfl, _, _, rfl, rfl, _, rfl, p, dx, _, rfl, hob, nA, p, g, t, o, gs, tl, rfl, R, ?_⟩
    have hsc : scal (V.int ((n : Int) + 1)) (attV gs tl) = true := by cases tl <;> rfl
    have hne : decide (V.int ((n : Int) + 1) = attV gs tl) = false := by
      cases tl with
      | fin =>
        have := okf rfl
        refine decide_eq_false fun e => ?_
        have := V.int.inj e
        omega
      | times b => exact decide_eq_false fun e => by cases e
      | rep m => exact decide_eq_false fun e => by cases e
    refine ⟨hsc, _, rfl, iteFb hne ?_⟩
    refine ⟨_, rfl, rdG T R rfl ⟨g, _, rfl, .inl (SqL.of R.hg), _, _, rfl, rfl, _, rfl, ?_⟩⟩
    rw [List.length_map]
    by_cases hn : n < gs.length
    · refine iteTb (decide_eq_true (by omega)) ?_
      refine rdGx T R rfl ⟨_, rfl, g, _, _, _, rfl, rfl, SqL.of R.hg, at_map (getD_get hn), ?_⟩
      have e : gapf gs tl n = gs.getD n 0 := if_pos hn
      rw [← e]
      exact k
    · refine end_cmp (by omega) ?_
      refine ⟨_, rfl, ?_⟩
      refine rdG T R rfl ⟨g, _, rfl, .inl (SqL.of R.hg), _, _, rfl, rfl, ?_⟩
      have ef : ((n : Int) - (((gs.map V.int).length : Nat) : Int)) = ((n - gs.length : Nat) : Int) := by
        rw [List.length_map]
        omega
      show tSeq _ _ _ (List.set _ 2 (some (V.int ((n : Int) - (((gs.map V.int).length : Nat) : Int))))) H
      rw [ef]
      refine rdIs T R rfl ?_
      cases tl with
      | fin => exact absurd (okf rfl) hn
      | times b =>
        have hl := R.okT.1
        have hb0 := R.okT.2.1
        have hb1 := R.okT.2.2
        have hn1 : n ≤ 1000 := ok
        have hg := gap_bd R.okG (k := gs.length - 1) (by omega)
        have hg : 1 ≤ lastG gs ∧ lastG gs ≤ 1000000000000 := hg
        refine iteTb wTT ?_
        refine rdLast T R rfl hl ?_
        refine rdB T R rfl ⟨_, rfl, _, _, rfl, rfl, b, n - gs.length + 1, ?_, by omega, by omega, by omega, _, _, rfl, rfl, .inl ⟨by omega, by omega⟩, ?_⟩
        · rfl
        · have e : gapf gs (.times b) n = lastG gs * b ^ (n - gs.length + 1) := if_neg hn
          rw [e] at k
          exact k
      | rep m =>
        have hm0 := R.okT.1
        have hm1 := R.okT.2
        have hr0 : (n - gs.length) % m < m := Nat.mod_lt _ (by omega)
        refine iteFb wRT ?_
        refine rdGx T R rfl ⟨_, rfl, p, dx, _, rfl, hob, nF, p, g, t, o, gs, m, rfl, R, _, rfl, ?_⟩
        refine rdN T R rfl ⟨_, _, rfl, rfl, by omega, _, _, rfl, rfl, ?_⟩
        refine ⟨g, _, _, .int (gs.getD (gs.length - m + (n - gs.length) % m) 0), rfl, rfl, SqL.of R.hg, ?_, ?_⟩
        · rw [← Int.natCast_emod, ← Int.natCast_add]
          exact at_map (getD_get (by omega))
        · have e : gapf gs (.rep m) n = gs.getD (gs.length - m + (n - gs.length) % m) 0 := if_neg hn
          rw [e] at k
          exact k
end
end RS
namespace RS
open PySem L2
/-! ### the mathematics of offsets and gaps -/
def geo (b : Int) : Nat → Int
  | 0 => 0
  | k + 1 => geo b k + b ^ k
theorem geo_eq (b : Int) : ∀ k, b ^ k - 1 = (b - 1) * geo b k
  | 0 => by simp [geo]
  | k + 1 => by
    rw [geo, Int.mul_add, ← geo_eq b k, Int.pow_succ, Int.sub_mul, Int.one_mul, Int.mul_comm b (b ^ k)]
    omega
theorem geo_div {b : Int} (h : 2 ≤ b) (x : Int) (k : Nat) : x * (b ^ k - 1) / (b - 1) = x * geo b k := by
  rw [geo_eq, ← Int.mul_assoc, Int.mul_comm x (b - 1), Int.mul_assoc]
  exact Int.mul_ediv_cancel_left _ (by omega)
theorem off_low {gs : List Int} {tl : Tl} {n : Nat} (h : n ≤ gs.length) : off gs tl n = pre gs n := if_pos h
theorem off_times {gs : List Int} {b : Int} (h2 : 2 ≤ b) {n : Nat} (h : gs.length ≤ n) : off gs (.times b) n = pre gs gs.length + lastG gs * b * geo b (n - gs.length) := by
  by_cases e : n = gs.length
  · subst e
    rw [off_low (Nat.le_refl _), Nat.sub_self]
    simp [geo]
  · have e1 : off gs (.times b) n = pre gs gs.length + lastG gs * b * (b ^ (n - gs.length) - 1) / (b - 1) := if_neg (by omega)
    rw [e1, geo_div h2]
theorem off_rep {gs : List Int} {m : Nat} (h1 : 1 ≤ m) (h2 : m ≤ gs.length) {n : Nat} (h : gs.length ≤ n) : off gs (.rep m) n = pre gs (gs.length - m + (n - gs.length) % m) + (((n - gs.length) / m : Nat) + 1) * per gs m := by
  by_cases e : n = gs.length
  · subst e
    rw [off_low (Nat.le_refl _), Nat.sub_self, Nat.zero_mod, Nat.zero_div]
    unfold per
    simp
    omega
  · exact if_neg (by omega)
theorem gap_low {gs : List Int} {tl : Tl} {n : Nat} (h : n < gs.length) : gapf gs tl n = gs.getD n 0 := if_pos h
theorem gap_times {gs : List Int} {b : Int} {n : Nat} (h : gs.length ≤ n) : gapf gs (.times b) n = lastG gs * b ^ (n - gs.length + 1) := if_neg (by omega)
theorem gap_rep {gs : List Int} {m n : Nat} (h : gs.length ≤ n) : gapf gs (.rep m) n = gs.getD (gs.length - m + (n - gs.length) % m) 0 := if_neg (by omega)
theorem pre_succD {gs : List Int} {k : Nat} (h : k < gs.length) : pre gs (k + 1) = pre gs k + gs.getD k 0 := pre_succ gs (getD_get h)
/-- the next attempt lies one gap later -/
theorem off_succ {gs : List Int} {tl : Tl} (ok : TlOk gs.length tl) {n : Nat} (hf : tl = .fin → n < gs.length) : off gs tl (n + 1) = off gs tl n + gapf gs tl n := by
  by_cases h : n < gs.length
  · rw [off_low (by omega), off_low (by omega), gap_low h, pre_succD h]
  · cases tl with
    | fin => exact absurd (hf rfl) h
    | times b =>
      have h2 := ok.2.1
      rw [off_times h2 (by omega), off_times h2 (by omega), gap_times (by omega), show n + 1 - gs.length = (n - gs.length) + 1 by omega, geo, Int.mul_add, Int.pow_succ, Int.mul_assoc, Int.mul_assoc, Int.mul_comm (b ^ (n - gs.length)) b]
      omega
    | rep m =>
      have h1 : 1 ≤ m := ok.1
      have h2 : m ≤ gs.length := ok.2
      rw [off_rep h1 h2 (by omega), off_rep h1 h2 (by omega), gap_rep (by omega)]
      generalize hd : n - gs.length = d
      rw [show n + 1 - gs.length = d + 1 by omega]
      have hr : d % m < m := Nat.mod_lt _ (by omega)
      have e0 : m * (d / m) + d % m = d := Nat.div_add_mod d m
      by_cases hl : d % m + 1 < m
      · have e1 : (d + 1) % m = d % m + 1 := by
          rw [← e0, show m * (d / m) + d % m + 1 = (d % m + 1) + m * (d / m) by omega, Nat.add_mul_mod_self_left, Nat.mod_eq_of_lt hl, Nat.add_comm (m * (d / m)), Nat.add_mul_mod_self_left, Nat.mod_mod]
        have e2 : (d + 1) / m = d / m := by
          have h3 := Nat.div_add_mod (d + 1) m
          rw [e1] at h3
          have h4 : m * ((d + 1) / m) = m * (d / m) := by omega
          exact Nat.eq_of_mul_eq_mul_left (by omega) h4
        rw [e1, e2, show gs.length - m + (d % m + 1) = (gs.length - m + d % m) + 1 by omega, pre_succD (by omega)]
        omega
      · have e1 : d + 1 = m * (d / m + 1) := by
          rw [Nat.mul_add, Nat.mul_one]
          omega
        rw [e1, Nat.mul_mod_right, Nat.mul_div_cancel_left _ (by omega), show d % m = m - 1 by omega]
        have e3 : pre gs gs.length = pre gs (gs.length - m + (m - 1)) + gs.getD (gs.length - m + (m - 1)) 0 := by
          rw [← pre_succD (by omega), show gs.length - m + (m - 1) + 1 = gs.length by omega]
        have e4 : per gs m = pre gs gs.length - pre gs (gs.length - m) := rfl
        have e5 : ((d / m + 1 : Nat) + 1 : Int) * per gs m = ((d / m : Nat) + 1 : Int) * per gs m + per gs m := by
          rw [Int.natCast_add, Int.add_mul, Int.natCast_one, Int.one_mul]
        rw [e5, Nat.add_zero]
        omega
theorem gap_grow {gs : List Int} {b : Int} (h0 : 0 < gs.length) {n : Nat} (h : gs.length ≤ n) : gapf gs (.times b) n = gapf gs (.times b) (n - 1) * b := by
  rw [gap_times h]
  by_cases e : n = gs.length
  · subst e
    rw [gap_low (by omega), Nat.sub_self]
    show lastG gs * b ^ 1 = lastG gs * b
    rw [Int.pow_succ, Int.pow_zero, Int.one_mul]
  · rw [gap_times (by omega), show n - gs.length + 1 = (n - 1 - gs.length + 1) + 1 by omega, Int.pow_succ, Int.mul_assoc]
theorem off_later {gs : List Int} {m : Nat} (h1 : 1 ≤ m) (h2 : m ≤ gs.length) (a t : Nat) : off gs (.rep m) (a + gs.length + m * t) = off gs (.rep m) (a + gs.length) + (t : Int) * per gs m := by
  rw [off_rep h1 h2 (by omega), off_rep h1 h2 (by omega), show a + gs.length + m * t - gs.length = a + m * t by omega, show a + gs.length - gs.length = a by omega, Nat.add_mul_mod_self_left, Nat.add_mul_div_left _ _ (by omega), Int.natCast_add]
  rw [Int.add_mul, Int.add_mul, Int.add_mul]
  omega
theorem sum_take_drop (gs : List Int) (k : Nat) : (gs.take k).sum + (gs.drop k).sum = gs.sum := by
  rw [← List.sum_append, List.take_append_drop]
theorem per_sum {gs : List Int} (m : Nat) : (gs.drop (gs.length - m)).sum = per gs m := by
  have h := sum_take_drop gs (gs.length - m)
  have e : pre gs gs.length = gs.sum := by unfold pre; rw [List.take_length]
  unfold per
  rw [e]
  unfold pre
  omega
end RS
namespace RS
open PySem L2
/-! ### the law's own source of numbers -/
/-- all but what stands at a is as it was -/
def Kx (a : Addr) (H H' : Hp) : Prop := ∀ c u, c ≠ a → H c = some u → H' c = some u
theorem Kx.refl (a : Addr) (H : Hp) : Kx a H H := fun _ _ _ h => h
theorem Kx.trans {a : Addr} {H H1 H2 : Hp} (x : Kx a H H1) (y : Kx a H1 H2) : Kx a H H2 := fun c u n h => y c u n (x c u n h)
theorem Kx.of {a : Addr} {H H' : Hp} (x : Same H H') : Kx a H H' := fun c u _ h => x c u h
theorem Kx.upd {a : Addr} {H : Hp} {o : HO} : Kx a H (upd H a o) := fun c u n h => by
  rw [upd_ne n]
  exact h
theorem Kx.free {a : Addr} {H H' : Hp} (x : Kx a H H') {p : Addr} (n : p ≠ a) (h : H' p = none) : H p = none := by
  cases q : H p with
  | none => rfl
  | some o =>
    rw [x p o n q] at h
    cases h
structure Src (H : Hp) (a : Addr) (b : Nat) : Prop where
  ex : ∃ s0 s1 s2 : Int, H a = some (.lst [.int s0, .int s1, .int s2]) ∧ 0 ≤ s0 ∧ 0 ≤ s2 ∧ s2 ≤ b
theorem Src.mono {H H' : Hp} {a : Addr} {b : Nat} (h : Src H a b) (e : Same H H') : Src H' a b := by
  obtain ⟨s0, s1, s2, h1, h2⟩ := h.ex
  exact ⟨s0, s1, s2, e _ _ h1, h2⟩
theorem Src.le {H : Hp} {a : Addr} {b c : Nat} (h : Src H a b) (e : b ≤ c) : Src H a c := by
  obtain ⟨s0, s1, s2, h1, h2, h3, h4⟩ := h.ex
  exact ⟨s0, s1, s2, h1, h2, h3, by omega⟩
theorem Src.new {H : Hp} {a : Addr} {b : Nat} (h : Src H a b) {p : Addr} (hp : H p = none) : a ≠ p := by
  obtain ⟨s0, s1, s2, h1, _⟩ := h.ex
  exact ne_of_none h1 hp
theorem Src.upd {H : Hp} {a : Addr} {b : Nat} (h : Src H a b) {p : Addr} {o : HO} (n : a ≠ p) : Src (upd H p o) a b := by
  obtain ⟨s0, s1, s2, h1, h2⟩ := h.ex
  exact ⟨s0, s1, s2, by rw [upd_ne n]; exact h1, h2⟩
section
variable {P : Program} {w : World} {K : PySem.W.Frag} {mg : Str → Option Value} {base : Heap}
/-! ### the law's own source of numbers -/
def spWell : Sp := fun vs H Q _ => ∃ c : Int, vs = [.int c] ∧ ∀ a H', H a = none → Same H H' → Src H' a 0 → Q (.ref a) H'
theorem scWell : FnScope ["_law_cell"] ["_law_cell"] (defScope s_law_well) := ⟨rfl, rfl, rfl, by decide +kernel, rfl, by decide +kernel, by decide +kernel⟩
theorem ok_well {f C : Addr} {fd : FuncData} (F : Fun K "_law_well" "_law_well" s_law_well f fd) (T : Txt K mg C) : FnOk P w K mg base CX0 1 f fd ["_law_cell"] spWell := by
  refine F.ok scWell (fun vs H Q E h => ?_) (fun cdv A outer s H vs Q E hr h => ?_)
  · obtain ⟨c, rfl, _⟩ := h
    rfl
  · obtain ⟨c, rfl, k⟩ := h
    refine ⟨_, (pss_one (ps_ret (pe_lst (pa_cons (pe_op op_mul (pv 0) (pe_callTy call_int1 (by rfl) T.int (by decide +kernel) (pa_cons (pe_cmpR op_ge (pv 0) (pe_op op_pow pe_int pe_int) (nomark _)) pa_nil))) (pa_cons (pv 0) (pa_cons pe_int pa_nil)))))), ?_⟩
    refine ⟨_, rfl, _, rfl, _, _, rfl, rfl, ⟨by decide, by decide, by decide⟩, _, _, rfl, rfl, .inr ⟨_, rfl, ?_⟩⟩
    refine ⟨_, _, rfl, rfl, .inr ?_, _, rfl, (by show 3 ≤ sizeLine; decide), fun a ha => ?_⟩
    · by_cases hc : (10 : Int) ^ (18 : Int).toNat ≤ c
      · rw [decide_eq_true hc]; decide
      · rw [decide_eq_false hc]; decide
    · refine k a _ ha (same_new ha) ⟨_, _, _, upd_same, ?_, by decide, by decide⟩
      by_cases hc : (10 : Int) ^ (18 : Int).toNat ≤ c
      · have e : (10 : Int) ^ (18 : Int).toNat = 1000000000000000000 := by decide
        rw [decide_eq_true hc]
        show 0 ≤ c * 1
        omega
      · rw [decide_eq_false hc]
        show 0 ≤ c * 0
        omega
def spMixed : Sp := fun vs H Q _ => ∃ (c k : Int), vs = [.int c, .int k] ∧ 0 ≤ k ∧ k ≤ 1000000 ∧ ∀ r, 0 ≤ r → Q (.int r) H
theorem scMixed : FnScope ["_law_cell", "_law_k", "_law_number"] ["_law_cell", "_law_k"] (defScope s_law_mixed) := ⟨rfl, rfl, rfl, by decide +kernel, rfl, by decide +kernel, by decide +kernel⟩
theorem ok_mixed {f C : Addr} {fd : FuncData} (F : Fun K "_law_mixed" "_law_mixed" s_law_mixed f fd) (T : Txt K mg C) : FnOk P w K mg base CX0 1 f fd ["_law_cell", "_law_k"] spMixed := by
  refine F.ok scMixed (fun vs H Q E h => ?_) (fun cdv A outer s H vs Q E hr h => ?_)
  · obtain ⟨c, k, rfl, _⟩ := h
    rfl
  · obtain ⟨c, k, rfl, k0, k1, q⟩ := h
    refine ⟨_, (pss_cons (ps_set (i := 2) scMixed.nd rfl (Or.inl rfl) (pe_op op_mod (pe_callTy call_int1 (by rfl) T.int (by decide +kernel) (pa_cons (pe_op op_pow (pe_op op_add (pe_op op_add (pe_op op_mod (pe_callTy call_int1 (by rfl) T.int (by decide +kernel) (pa_cons (pv 0) pa_nil)) pe_int) (pe_op op_mul pe_int (pv 1))) pe_int) pe_int) pa_nil)) pe_int)) (pss_cons (ps_set (i := 2) scMixed.nd rfl (Or.inl rfl) (pe_op op_mod (pe_callTy call_int1 (by rfl) T.int (by decide +kernel) (pa_cons (pe_op op_add (pv 2) (pe_op op_mul (pe_op op_mod (pe_callTy call_int1 (by rfl) T.int (by decide +kernel) (pa_cons (pe_op op_fdivW (pv 0) pe_int) pa_nil)) pe_int) (pe_op op_add (pv 1) pe_int))) pa_nil)) pe_int)) (pss_cons (ps_set (i := 2) scMixed.nd rfl (Or.inl rfl) (pe_op op_mod (pe_callTy call_int1 (by rfl) T.int (by decide +kernel) (pa_cons (pe_op op_mul (pv 2) (pe_op op_add (pe_op op_add (pe_op op_fdiv (pv 2) pe_int) pe_int) (pv 1))) pa_nil)) pe_int)) (pss_one (ps_ret (pe_op op_mod (pe_callTy call_int1 (by rfl) T.int (by decide +kernel) (pa_cons (pe_op op_mul (pv 2) (pe_op op_add (pe_op op_fdiv (pv 2) pe_int) pe_int)) pa_nil)) pe_int)))))), ?_⟩
    have m1 := Int.emod_nonneg c (show (2147483629 : Int) ≠ 0 by decide)
    have m2 := Int.emod_lt_of_pos c (show (0 : Int) < 2147483629 by decide)
    refine ⟨_, rfl, .inl ⟨_, rfl, _, _, rfl, rfl, (by show (0 : Int) < 2147483629; decide), _, rfl, _, _, rfl, rfl, .inl ⟨by decide, by decide⟩, _, _, rfl, rfl, _, _, rfl, rfl, _, _, rfl, rfl, ⟨by decide, by decide, by omega⟩, .inl ⟨_, rfl, _, _, rfl, rfl, (by show (0 : Int) < 2147483647; decide), ?_⟩⟩⟩
    generalize hn1 : (c % 2147483629 + 30011 * k + 7) ^ (3 : Int).toNat % 2147483647 = n1
    have a1 : 0 ≤ n1 := by rw [← hn1]; exact Int.emod_nonneg _ (by decide)
    have a2 : n1 < 2147483647 := by rw [← hn1]; exact Int.emod_lt_of_pos _ (by decide)
    refine ⟨_, rfl, _, rfl, _, _, rfl, rfl, wide_div (by decide) (b := 32) (by decide) (by decide) (by decide), .inl ⟨_, rfl, _, _, rfl, rfl, (by show (0 : Int) < 65537; decide), ?_⟩⟩
    generalize hx : c / 2147483629 % 65537 = x
    have x0 : 0 ≤ x := by rw [← hx]; exact Int.emod_nonneg _ (by decide)
    have x1 : x < 65537 := by rw [← hx]; exact Int.emod_lt_of_pos _ (by decide)
    refine ⟨_, rfl, _, _, rfl, rfl, _, _, rfl, rfl, .inl ⟨by omega, by omega⟩, _, _, rfl, rfl, .inl ⟨_, rfl, _, _, rfl, rfl, (by show (0 : Int) < 2147483587; decide), ?_⟩⟩
    generalize hn2 : (n1 + x * (k + 5)) % 2147483587 = n2
    have b1 : 0 ≤ n2 := by rw [← hn2]; exact Int.emod_nonneg _ (by decide)
    have b2 : n2 < 2147483587 := by rw [← hn2]; exact Int.emod_lt_of_pos _ (by decide)
    refine ⟨_, rfl, _, rfl, _, _, rfl, rfl, ⟨by decide, by decide⟩, _, _, rfl, rfl, _, rfl, _, _, rfl, rfl, _, _, rfl, rfl, .inl ⟨by omega, by omega⟩, .inl ⟨_, rfl, _, _, rfl, rfl, (by show (0 : Int) < 2147483563; decide), ?_⟩⟩
    generalize hn3 : n2 * (n2 / 1009 + 69621 + k) % 2147483563 = n3
    have c1 : 0 ≤ n3 := by rw [← hn3]; exact Int.emod_nonneg _ (by decide)
    have c2 : n3 < 2147483563 := by rw [← hn3]; exact Int.emod_lt_of_pos _ (by decide)
    refine ⟨_, rfl, _, rfl, _, _, rfl, rfl, ⟨by decide, by decide⟩, _, _, rfl, rfl, _, _, rfl, rfl, .inl ⟨by omega, by omega⟩, .inl ⟨_, rfl, _, _, rfl, rfl, (by show (0 : Int) < 2147483399; decide), ?_⟩⟩
    exact q _ (Int.emod_nonneg _ (by decide))
def spNext : Sp := fun vs H Q _ => ∃ (a : Addr) (m : Int) (b : Nat), vs = [.ref a, .int m] ∧ Src H a b ∧ b ≤ 100000 ∧ 1 ≤ m ∧ m < 2 ^ 200 ∧ ∀ r H', 0 ≤ r → r < m → Kx a H H' → Src H' a (b + 1) → Q (.int r) H'
theorem scNext : FnScope ["_law_well_here", "_law_many", "_law_found"] ["_law_well_here", "_law_many"] (defScope s_law_draw) := ⟨rfl, rfl, rfl, by decide +kernel, rfl, by decide +kernel, by decide +kernel⟩
theorem ok_next {f C fM : Addr} {fd fdM : FuncData} (F : Fun K "_law_draw" "_law_draw" s_law_draw f fd) (T : Txt K mg C)
    (GM : FnOk P w K mg base CX0 1 fM fdM ["_law_cell", "_law_k"] spMixed) (bM : Binds K fdM ["_law_cell", "_law_k"] []) (mM : mg "_law_mixed" = some (.ref fM)) (kM : PySem.W.keepIn K (.ref fM) = true) : FnOk P w K mg base CX0 2 f fd ["_law_well_here", "_law_many"] spNext := by
  refine F.ok scNext (fun vs H Q E h => ?_) (fun cdv A outer s H vs Q E hr h => ?_)
  · obtain ⟨a, m, b, rfl, _⟩ := h
    rfl
  · obtain ⟨a, m, b, rfl, S, hb, hm1, hm2, k⟩ := h
    obtain ⟨s0, s1, s2, ha, h0, h2, h2'⟩ := S.ex
    refine ⟨_, (pss_cons (ps_if (pt_cmpR op_gt (pe_ix ix_list (pv 0) pe_int (fun _ _ => rfl)) pe_int (nomark _)) (pss_cons (ps_set (i := 2) scNext.nd rfl (Or.inl rfl) (pe_op op_mod (pe_callTy call_int1 (by rfl) T.int (by decide +kernel) (pa_cons (pe_ix ix_list (pv 0) pe_int (fun _ _ => rfl)) pa_nil)) (pv 1))) (pss_cons (ps_asg (pe_op op_fdivW (pe_ix ix_list (pv 0) pe_int (fun _ _ => rfl)) (pv 1)) (pg_sub (pv 0) pe_int set_list)) (pss_one (ps_ret (pv 2))))) pss_nil) (pss_cons (ps_asg (pe_op op_add (pe_ix ix_list (pv 0) pe_int (fun _ _ => rfl)) pe_int) (pg_sub (pv 0) pe_int set_list)) (pss_one (ps_ret (pe_op op_mod (pe_callTy call_int1 (by rfl) T.int (by decide +kernel) (pa_cons (pe_call GM hr rfl mM kM bM .nil pass0 (pa_cons (pe_ix ix_list (pv 0) pe_int (fun _ _ => rfl)) (pa_cons (pe_ix ix_list (pv 0) pe_int (fun _ _ => rfl)) pa_nil))) pa_nil)) (pv 1)))))), ?_⟩
    refine ⟨_, rfl, a, _, _, _, rfl, rfl, SqL.of ha, atI_nat (j := 0) rfl, _, _, rfl, rfl, _, rfl, ?_⟩
    by_cases hz : 0 < s0
    · refine iteTb (decide_eq_true hz) ?_
      refine ⟨_, rfl, a, _, _, _, rfl, rfl, SqL.of ha, atI_nat (j := 0) rfl, .inl ⟨_, rfl, _, rfl, _, _, rfl, rfl, by omega, ?_⟩⟩
      refine ⟨_, rfl, a, _, _, _, rfl, rfl, SqL.of ha, atI_nat (j := 0) rfl, _, rfl, _, _, rfl, rfl, wide_div (by omega) (b := 200) (by omega) (by decide) (by decide), _, rfl, a, _, _, 0, rfl, rfl, ha, rfl, ?_⟩
      refine ⟨_, rfl, k _ _ (Int.emod_nonneg _ (by omega)) (Int.emod_lt_of_pos _ (by omega)) Kx.upd ⟨s0 / m, s1, s2, upd_same, Int.ediv_nonneg h0 (by omega), h2, by omega⟩⟩
    · refine iteFb (decide_eq_false hz) ?_
      refine ⟨_, rfl, a, _, _, _, rfl, rfl, SqL.of ha, atI_nat (j := 2) rfl, _, _, rfl, rfl, _, rfl, a, _, _, 2, rfl, rfl, ha, rfl, ?_⟩
      have hal := upd_same (H := H) (a := a) (o := .lst [V.int s0, .int s1, .int (s2 + 1)])
      refine ⟨_, rfl, a, _, _, _, rfl, rfl, SqL.of hal, atI_nat (j := 1) rfl, _, rfl, a, _, _, _, rfl, rfl, SqL.of hal, atI_nat (j := 2) rfl, s1, s2 + 1, rfl, by omega, by omega, fun r r0 => .inl ⟨_, rfl, _, rfl, _, _, rfl, rfl, by omega, ?_⟩⟩
      exact k _ _ (Int.emod_nonneg _ (by omega)) (Int.emod_lt_of_pos _ (by omega)) Kx.upd ⟨s0, s1, s2 + 1, hal, h0, by omega, by omega⟩
def spOne : Sp := fun vs H Q _ => ∃ (a q : Addr) (xs : List V) (b : Nat), vs = [.ref a, .ref q] ∧ Src H a b ∧ b ≤ 100000 ∧ q ≠ a ∧ H q = some (.lst xs) ∧ 0 < xs.length ∧ xs.length < 1000 ∧ ∀ x H', x ∈ xs → Kx a H H' → Src H' a (b + 1) → Q x H'
theorem scOne : FnScope ["_law_well_here", "_law_some"] ["_law_well_here", "_law_some"] (defScope s_law_one) := ⟨rfl, rfl, rfl, by decide +kernel, rfl, by decide +kernel, by decide +kernel⟩
theorem ok_one {f C fN : Addr} {fd fdN : FuncData} (F : Fun K "_law_one" "_law_one" s_law_one f fd) (T : Txt K mg C) (GN : FnOk P w K mg base CX0 2 fN fdN ["_law_well_here", "_law_many"] spNext) (bN : Binds K fdN ["_law_well_here", "_law_many"] []) (mN : mg "_law_draw" = some (.ref fN)) (kN : PySem.W.keepIn K (.ref fN) = true) :
    FnOk P w K mg base CX0 3 f fd ["_law_well_here", "_law_some"] spOne := by
  refine F.ok scOne (fun vs H Q E h => ?_) (fun cdv A outer s H vs Q E hr h => ?_)
  · obtain ⟨a, q, xs, b, rfl, _⟩ := h
    rfl
  · obtain ⟨a, q, xs, b, rfl, S, hb, hne, hq, hx0, hx1, k⟩ := h
    refine ⟨_, (pss_one (ps_ret (pe_ix ix_list (pv 1) (pe_call GN hr rfl mN kN bN .nil pass0 (pa_cons (pv 0) (pa_cons (pe_callB call_len_seq (by rfl) T.len (by decide +kernel) (pa_cons (pv 1) pa_nil)) pa_nil))) (fun _ _ => rfl)))), ?_⟩
    refine ⟨_, rfl, _, rfl, _, rfl, q, _, rfl, .inl (SqL.of hq), a, (xs.length : Int), b, rfl, S, hb, by omega, by omega, fun r H' r0 r1 kx S' => ?_⟩
    obtain ⟨j, rfl⟩ : ∃ j : Nat, r = (j : Int) := ⟨r.toNat, by omega⟩
    have hj : j < xs.length := by omega
    exact ⟨q, _, _, _, rfl, rfl, SqL.of (kx _ _ hne hq), atI_nat (List.getElem?_eq_getElem hj), k _ _ (List.getElem_mem hj) kx S'⟩
end
end RS
namespace RS
open PySem L2
/-! ### what the law draws: a rule, windows, parts of a scene -/
def Small (gs : List Int) : Prop := gs.length ≤ 5 ∧ ∀ g ∈ gs, 1 ≤ g ∧ g ≤ 6
theorem Small.ok {gs : List Int} (h : Small gs) : GapsOk gs := ⟨by have := h.1; omega, fun g hg => by have := h.2 g hg; omega⟩
/-- tuples of two ints, none of them at a -/
inductive Tups (a : Addr) (H : Hp) : List V → List (Int × Int) → Prop
  | nil : Tups a H [] []
  | cons {r : Addr} {vs : List V} {f e : Int} {ws : List (Int × Int)} : r ≠ a → H r = some (.tup [.int f, .int e]) → Tups a H vs ws → Tups a H (.ref r :: vs) ((f, e) :: ws)
theorem Tups.kx {a : Addr} {H H' : Hp} (k : Kx a H H') : ∀ {vs : List V} {ws : List (Int × Int)}, Tups a H vs ws → Tups a H' vs ws
  | _, _, .nil => .nil
  | _, _, .cons n e r => .cons n (k _ _ n e) (r.kx k)
theorem Tups.len {a : Addr} {H : Hp} : ∀ {vs : List V} {ws : List (Int × Int)}, Tups a H vs ws → vs.length = ws.length
  | _, _, .nil => rfl
  | _, _, .cons _ _ r => by rw [List.length_cons, List.length_cons, r.len]
theorem Tups.snoc {a : Addr} {H : Hp} {r : Addr} {f e : Int} (n : r ≠ a) (h : H r = some (.tup [.int f, .int e])) : ∀ {vs : List V} {ws : List (Int × Int)}, Tups a H vs ws → Tups a H (vs ++ [.ref r]) (ws ++ [(f, e)])
  | _, _, .nil => .cons n h .nil
  | _, _, .cons n' e' t => .cons n' e' (t.snoc n h)
theorem Tups.imp {a : Addr} {H H' : Hp} (k : ∀ (b : Addr) (f e : Int), H b = some (.tup [.int f, .int e]) → H' b = some (.tup [.int f, .int e])) : ∀ {vs : List V} {ws : List (Int × Int)}, Tups a H vs ws → Tups a H' vs ws
  | _, _, .nil => .nil
  | _, _, .cons n e t => .cons n (k _ _ _ e) (t.imp k)
theorem Tups.off {a : Addr} {H : Hp} {l : Addr} {xs : List V} {o : HO} (hl : H l = some (.lst xs)) : ∀ {vs : List V} {ws : List (Int × Int)}, Tups a H vs ws → Tups a (upd H l o) vs ws
  | _, _, .nil => .nil
  | _, _, .cons n e t => .cons n (by rw [upd_ne (ne_of e hl (by intro z; cases z))]; exact e) (t.off hl)
theorem Tups.at {a : Addr} {H : Hp} : ∀ {vs : List V} {ws : List (Int × Int)}, Tups a H vs ws → ∀ {i : Nat} {x : V}, vs[i]? = some x → ∃ r f e, x = .ref r ∧ ws[i]? = some (f, e) ∧ r ≠ a ∧ H r = some (.tup [.int f, .int e])
  | _, _, .nil, i, x, hx => by simp at hx
  | _, _, .cons n e t, i, x, hx => by
    cases i with
    | zero => simp at hx; subst hx; exact ⟨_, _, _, rfl, rfl, n, e⟩
    | succ i => simpa using t.at (i := i) (by simpa using hx)
/-- windows, one behind another -/
def WinOk (ws : List (Int × Int)) : Prop := (∀ p ∈ ws, p.1 < p.2) ∧ ∀ (i : Nat) (p q : Int × Int), ws[i]? = some p → ws[i + 1]? = some q → p.2 ≤ q.1
theorem WinOk.nil : WinOk [] := ⟨(fun _ h => nomatch h), fun i p q h _ => by rw [List.getElem?_nil] at h; cases h⟩
theorem WinOk.snoc {ws : List (Int × Int)} {f e : Int} (h : WinOk ws) (hfe : f < e) (hl : ∀ p, ws[ws.length - 1]? = some p → p.2 ≤ f) : WinOk (ws ++ [(f, e)]) := by
  refine ⟨fun p hp => ?_, fun i p q hp hq => ?_⟩
  · rcases List.mem_append.mp hp with hp | hp
    · exact h.1 p hp
    · obtain rfl := List.mem_singleton.mp hp
      exact hfe
  · have hi : i + 1 < (ws ++ [(f, e)]).length := (List.getElem?_eq_some_iff.mp hq).1
    rw [List.length_append] at hi
    have hi : i + 1 < ws.length + 1 := hi
    by_cases hlt : i + 1 < ws.length
    · rw [List.getElem?_append_left (by omega)] at hp
      rw [List.getElem?_append_left hlt] at hq
      exact h.2 i p q hp hq
    · have e1 : i + 1 = ws.length := by omega
      rw [List.getElem?_append_left (by omega)] at hp
      rw [e1, List.getElem?_append_right (Nat.le_refl _), Nat.sub_self] at hq
      have hq : some (f, e) = some q := hq
      obtain rfl := Option.some.inj hq
      exact hl p (by rw [← e1, Nat.add_sub_cancel]; exact hp)
section
variable {P : Program} {w : World} {K : PySem.W.Frag} {mg : Str → Option Value} {base : Heap}
theorem ints_dp {K : PySem.W.Frag} {H : Hp} : ∀ ns : List Int, DpAll K H (ns.map V.int) (ns.map PyData.int)
  | [] => .nil
  | n :: r => .cons (.int n) (ints_dp r)
theorem list_dp {K : PySem.W.Frag} {H : Hp} {a : Addr} {ns : List Int} (h : SqL K H a (ns.map V.int)) : Dp K H (.ref a) (.list (ns.map PyData.int)) := .lst h (ints_dp ns)
theorem list_eqv (ns ms : List Int) : PyData.eqv (.list (ns.map PyData.int)) (.list (ms.map PyData.int)) = decide (ns = ms) := PySem.W.ked_eqvAll ns ms
end
end RS
namespace RS
open PySem L2
section
variable {P : Program} {w : World} {K : PySem.W.Frag} {mg : Str → Option Value} {base : Heap}
/-! ### windows -/
def spWin : Sp := fun vs H Q _ => ∃ (a : Addr) (b : Nat), vs = [.ref a] ∧ Src H a b ∧ b ≤ 50000 ∧
  ∀ (l : Addr) (rs : List V) (ws : List (Int × Int)) (H' : Hp), l ≠ a → H' l = some (.lst rs) → Tups a H' rs ws → WinOk ws → ws.length ≤ 3 → (∀ p ∈ ws, -10 ≤ p.1 ∧ p.2 ≤ 100) → Kx a H H' → Src H' a (b + 10) → Q (.ref l) H'
theorem scWin : FnScope ["_law_well_here", "_law_found", "_law_low", "_law_k"] ["_law_well_here"] (defScope s_law_windows) := ⟨rfl, rfl, rfl, by decide +kernel, rfl, by decide +kernel, by decide +kernel⟩
theorem ok_win {f C fN : Addr} {fd fdN : FuncData} (F : Fun K "_law_windows" "_law_windows" s_law_windows f fd) (T : Txt K mg C)
    (GN : FnOk P w K mg base CX0 2 fN fdN ["_law_well_here", "_law_many"] spNext) (bN : Binds K fdN ["_law_well_here", "_law_many"] []) (mN : mg "_law_draw" = some (.ref fN)) (kN : PySem.W.keepIn K (.ref fN) = true) : FnOk P w K mg base CX0 3 f fd ["_law_well_here"] spWin := by
  refine F.ok scWin (fun vs H Q E h => ?_) (fun cdv A outer s H vs Q E hr h => ?_)
  · obtain ⟨a, b, rfl, _⟩ := h
    rfl
  · obtain ⟨a, b, rfl, S, hb, k⟩ := h
    refine ⟨_, (pss_cons (ps_par (i := 1) (j := 2) (by rfl) scWin.nd rfl rfl (by decide) rfl rfl (pa_cons (pe_lst pa_nil) (pa_cons (pe_op op_sub (pe_call GN hr rfl mN kN bN .nil pass0 (pa_cons (pv 0) (pa_cons pe_int pa_nil))) pe_int) pa_nil)) (by rfl)) (pss_cons (ps_for PassesOwn.never rfl (pi_range1 rfl T.range (pa_cons (pe_call GN hr rfl mN kN bN .nil pass0 (pa_cons (pv 0) (pa_cons pe_int pa_nil))) pa_nil)) (pg_name (i := 3) scWin.nd rfl (Or.inl rfl))
        (pss_cons (ps_set (i := 2) scWin.nd rfl (Or.inl rfl) (pe_op op_add (pv 2) (pe_call GN hr rfl mN kN bN .nil pass0 (pa_cons (pv 0) (pa_cons pe_int pa_nil))))) (pss_cons (ps_expr (pe_bm PySem.F.plainAttrs_list PySem.F.slot_list_append PySem.F.type_list_append mt_append (pv 1) (pa_cons (pe_tup (pa_cons (pv 2) (pa_cons (pe_op op_add (pe_op op_add (pv 2) pe_int) (pe_call GN hr rfl mN kN bN .nil pass0 (pa_cons (pv 0) (pa_cons pe_int pa_nil)))) pa_nil))) pa_nil))) (pss_one (ps_set (i := 2) scWin.nd rfl (Or.inl rfl) (pe_ix ix_tup (pe_ix ix_list (pv 1) (pe_un un_neg pe_int) (fun _ _ => rfl)) pe_int (fun _ _ => rfl))))))) (pss_one (ps_ret (pv 1))))), ?_⟩
    refine ⟨(by show 0 ≤ sizeLine; decide), fun L hL => ?_⟩
    have sL := same_new (o := .lst []) hL
    have naL : a ≠ L := S.new hL
    refine ⟨_, rfl, a, 20, b, rfl, S.mono sL, by omega, by decide, by decide, fun r0 H1 r00 r01 kx1 R1 => ⟨_, _, rfl, rfl, _, _, rfl, ?_⟩⟩
    have hL1 := kx1 _ _ naL.symm upd_same
    refine ⟨_, rfl, a, 4, b + 1, rfl, R1, by omega, by decide, by decide, fun n H2 n0 n1 kx2 R2 => ?_⟩
    have kx2' : Kx a H H2 := (Kx.of sL).trans (kx1.trans kx2)
    have hL2 := kx2 _ _ naL.symm hL1
    refine ⟨n, rfl, by omega, by omega, for_range (lo := 0) (n := n.toNat) (fun i σ H' => ∃ (rs : List V) (ws : List (Int × Int)) (lo : Int) (v3 : Option V), σ = [some (.ref a), some (.ref L), some (.int lo), v3] ∧ H' L = some (.lst rs) ∧ Tups a H' rs ws ∧ WinOk ws ∧ ws.length = i ∧ (∀ p ∈ ws, -10 ≤ p.1 ∧ p.2 ≤ 100) ∧ (∀ p, ws[ws.length - 1]? = some p → p.2 ≤ lo) ∧ -10 ≤ lo ∧ lo ≤ 10 + 30 * i ∧ Kx a H H' ∧ Src H' a (b + 2 + 2 * i)) ⟨[], [], r0 - 10, none, rfl, hL2, .nil, WinOk.nil, rfl, (fun _ h => nomatch h), (fun p h => by rw [List.getElem?_nil] at h; cases h), by omega, by omega, kx2', R2.le (by omega)⟩ ?_ ?_⟩
    · rintro i σ H3 hi ⟨rs, ws, lo, v3, rfl, hL3, tp, wo, hl, hb2, hlast, l0, l1, kx, R⟩
      refine ⟨_, rfl, _, rfl, a, 12, b + 2 + 2 * i, rfl, R, by omega, by decide, by decide, fun d H4 d0 d1 kx4 R4 => ⟨_, _, rfl, rfl, ?_⟩⟩
      have hL4 := kx4 _ _ naL.symm hL3
      refine ⟨_, rfl, .inl ⟨rfl, _, SqL.of hL4⟩, _, rfl, _, rfl, _, _, rfl, rfl, _, rfl, a, 9, b + 2 + 2 * i + 1, rfl, R4, by omega, by decide, by decide, fun e H5 e0 e1 kx5 R5 => ⟨_, _, rfl, rfl, (by show 2 ≤ sizeLine; decide), fun r hr5 => ?_⟩⟩
      have hL5 := kx5 _ _ naL.symm hL4
      have nra : r ≠ a := (R5.new hr5).symm
      have nLr : L ≠ r := ne_of_none hL5 hr5
      have sr := same_new (o := .tup [V.int (lo + d), .int (lo + d + 1 + e)]) hr5
      have tl := tp.len
      have hrs : rs.length = i := by rw [tl, hl]
      refine ⟨L, _, _, rfl, rfl, sr _ _ hL5, small1000 (by omega), ?_⟩
      have hrr : (upd (upd H5 r (.tup [V.int (lo + d), .int (lo + d + 1 + e)])) L (.lst (rs ++ [V.ref r]))) r = some (.tup [V.int (lo + d), .int (lo + d + 1 + e)]) := by
        rw [upd_ne nLr.symm]
        exact upd_same
      refine ⟨_, rfl, _, rfl, L, _, _, _, rfl, rfl, SqL.of upd_same, at_back1 (v := .ref r) (by rw [List.length_append]; show 0 < _ + 1; omega) (by rw [List.length_append, List.getElem?_append_right (by show rs.length ≤ rs.length + 1 - 1; omega)]; show [V.ref r][rs.length + 1 - 1 - rs.length]? = _; rw [show rs.length + 1 - 1 - rs.length = 0 by omega]; rfl), r, _, _, _, rfl, rfl, SqT.of hrr, atI_nat (j := 1) rfl, ?_⟩
      have hLH : H L = none := hL
      have kx6 : Kx a H (upd (upd H5 r (.tup [V.int (lo + d), .int (lo + d + 1 + e)])) L (.lst (rs ++ [V.ref r]))) := fun c u n h => by
        rw [upd_ne (ne_of_none h hLH)]
        exact sr _ _ (kx5 c u n (kx4 c u n (kx c u n h)))
      have tp5 : Tups a (upd H5 r (.tup [V.int (lo + d), .int (lo + d + 1 + e)])) rs ws := ((tp.kx kx4).kx kx5).kx (Kx.of sr)
      have tp6 : Tups a (upd (upd H5 r (.tup [V.int (lo + d), .int (lo + d + 1 + e)])) L (.lst (rs ++ [V.ref r]))) rs ws := tp5.off (sr _ _ hL5)
      refine ⟨rs ++ [.ref r], ws ++ [(lo + d, lo + d + 1 + e)], lo + d + 1 + e, _, rfl, upd_same, tp6.snoc nra hrr, wo.snoc (by omega) (fun p hp => by have := hlast p hp; omega), ?_, ?_, ?_, by omega, by omega, kx6, ((R5.mono sr).upd naL).le (by omega)⟩
      · rw [List.length_append, hl]
        rfl
      · intro p hp
        rcases List.mem_append.mp hp with hp | hp
        · exact hb2 p hp
        · obtain rfl := List.mem_singleton.mp hp
          constructor
          · show -10 ≤ lo + d
            omega
          · show lo + d + 1 + e ≤ 100
            omega
      · intro p hp
        rw [List.length_append, List.getElem?_append_right (by show ws.length ≤ ws.length + 1 - 1; omega)] at hp
        have hp : [(lo + d, lo + d + 1 + e)][ws.length + 1 - 1 - ws.length]? = some p := hp
        rw [show ws.length + 1 - 1 - ws.length = 0 by omega] at hp
        have hp : some (lo + d, lo + d + 1 + e) = some p := hp
        obtain rfl := Option.some.inj hp
        exact Int.le_refl _
    · rintro σ H3 ⟨rs, ws, lo, v3, rfl, hL3, tp, wo, hl, hb2, hlast, l0, l1, kx, R⟩
      exact ⟨_, rfl, k L rs ws H3 naL.symm hL3 tp wo (by omega) hb2 kx (R.le (by omega))⟩
end
end RS
namespace RS
open PySem L2
/-- what a drawn scene's parts may be -/
structure PartsOk (gs : List Int) (tl : Tl) (bs : List Int) (ws : List (Int × Int)) (n : Int) : Prop where
  sm : Small gs
  tk : TlOk gs.length tl
  b1 : 1 ≤ bs.length
  b8 : bs.length ≤ 8
  bb : ∀ b ∈ bs, 0 ≤ b ∧ b < 40
  wo : WinOk ws
  w3 : ws.length ≤ 3
  wb : ∀ p ∈ ws, -10 ≤ p.1 ∧ p.2 ≤ 100
  n1 : 1 ≤ n
  n8 : n ≤ 8
/-- the tuple of five parts at u -/
structure Parts (a : Addr) (H : Hp) (u g t s w : Addr) (n : Int) (gs : List Int) (tl : Tl) (bs : List Int) (rs : List V) (ws : List (Int × Int)) : Prop where
  hu : H u = some (.tup [.ref g, .ref t, .ref s, .ref w, .int n])
  nu : u ≠ a
  hg : H g = some (.lst (gs.map V.int))
  ng : g ≠ a
  ht : H t = some (.tup tl.vs)
  nt : t ≠ a
  hs : H s = some (.lst (bs.map V.int))
  ns : s ≠ a
  hw : H w = some (.lst rs)
  nw : w ≠ a
  tp : Tups a H rs ws
theorem Parts.kx {a : Addr} {H H' : Hp} {u g t s w : Addr} {n : Int} {gs : List Int} {tl : Tl} {bs : List Int} {rs : List V} {ws : List (Int × Int)} (B : Parts a H u g t s w n gs tl bs rs ws) (k : Kx a H H') : Parts a H' u g t s w n gs tl bs rs ws :=
  ⟨k _ _ B.nu B.hu, B.nu, k _ _ B.ng B.hg, B.ng, k _ _ B.nt B.ht, B.nt, k _ _ B.ns B.hs, B.ns, k _ _ B.nw B.hw, B.nw, B.tp.kx k⟩
end RS
/-! ### two fors in one comprehension, over lists -/
namespace L2
open PySem PySem.Spec PyProof.Rows
/-- over a list, whatever a turn does -/
theorem it_list {K : PySem.W.Frag} {a : Addr} {xs : List V} {Qd : Hp → Prop} {H0 : Hp} (B : V → Hp → (Hp → Prop) → Prop) (Pv : Nat → Hp → Prop) (h0 : Pv 0 H0) (hl : ∀ i H, i ≤ xs.length → Pv i H → SqL K H a xs)
    (hs : ∀ i x H, xs[i]? = some x → Pv i H → B x H (Pv (i + 1))) (hd : ∀ H, Pv xs.length H → Qd H) :
    ∃ W : Nat → Nat → Hp → Prop, (∃ m, W 0 m H0) ∧ ∀ i m H, W i m H → ((Itl K a).stop i H ∧ Qd H) ∨ ((Itl K a).go i H ∧ ∃ Nx : Hp → Prop, (∀ H', Nx H' → ∃ m', m' < m ∧ W (i + 1) m' H') ∧ ∀ x H', (Itl K a).yld i H x H' → B x H' Nx) := by
  refine ⟨fun i m H => m + i = xs.length ∧ Pv i H, ⟨xs.length, by simp, h0⟩, ?_⟩
  rintro i m H ⟨e, pv⟩
  have sq := hl i H (by omega) pv
  by_cases lt : i < xs.length
  · refine .inr ⟨⟨xs, xs[i], sq, by simp [lt]⟩, Pv (i + 1), fun H' pv' => ⟨m - 1, by omega, by omega, pv'⟩, fun x H' y => ?_⟩
    obtain ⟨eh, gx⟩ := y
    subst eh
    exact hs i x _ (gx xs sq) pv
  · have ei : i = xs.length := by omega
    subst ei
    exact .inl ⟨⟨xs, sq, Nat.le_refl _⟩, hd H pv⟩
end L2
namespace RS
open PySem L2
/-! ### offsets that repeat, residues -/
def repOffs (gs : List Int) (m : Nat) : List Int := (List.range m).map fun k => pre gs (gs.length - m + k)
def resid (gs : List Int) (m : Nat) (s : Int) : List Int := (repOffs gs m).map fun x => (s + x) % per gs m
theorem resid_len (gs : List Int) (m : Nat) (s : Int) : (resid gs m s).length = m := by simp [resid, repOffs]
theorem cut_last (xs : List V) (i : Nat) (h : i < xs.length) : cutV xs (some (i : Int)) (some (-1)) = (xs.drop i).take (xs.length - 1 - i) := by
  have e : HT.sIx xs.length xs.length (some (-1 : Int)) = xs.length - 1 := by
    show (if (-1 : Int) < 0 then (-1 + (xs.length : Int)).toNat else min (-1 : Int).toNat xs.length) = _
    rw [if_pos (by omega)]
    omega
  unfold cutV
  rw [HT.sIx_nat, e, Nat.min_eq_left (by omega)]
theorem cut_offs {gs : List Int} {m : Nat} (h1 : 1 ≤ m) (h2 : m ≤ gs.length) : cutV ((offs gs).map V.int) (some ((gs.length - m : Nat) : Int)) (some (-1)) = (repOffs gs m).map V.int := by
  have hl : ((offs gs).map V.int).length = gs.length + 1 := by rw [List.length_map, offs_len]
  rw [cut_last _ _ (by rw [hl]; omega), hl]
  refine List.ext_getElem? fun k => ?_
  unfold repOffs
  by_cases hk : k < m
  · rw [List.getElem?_take_of_lt (by omega), List.getElem?_drop, List.getElem?_map, offs_get gs (by omega), List.getElem?_map, List.getElem?_map, List.getElem?_range hk]
    rfl
  · rw [List.getElem?_eq_none (by rw [List.length_take, List.length_drop, hl]; omega), List.getElem?_eq_none (by simp; omega)]
section
variable {P : Program} {w : World} {K : PySem.W.Frag} {mg : Str → Option Value} {base : Heap}
def spLO (C : Addr) : Sp := fun vs H Q _ => ∃ (p g t o : Addr) (gs : List Int) (tl : Tl), vs = [.ref p] ∧ RuleAt C H p g t o gs tl ∧ ∀ q H', H q = none → Same H H' → H' q = some (.lst ((offs gs).map V.int)) → Q (.ref q) H'
theorem scLO : FnScope ["rule"] ["rule"] (defScope s_listed_offsets) := ⟨rfl, rfl, rfl, by decide +kernel, rfl, by decide +kernel, by decide +kernel⟩
theorem ok_lo {f C fS fG : Addr} {fd fdS fdG : FuncData} (F : Fun K "listed_offsets" "listed_offsets" s_listed_offsets f fd) (T : Txt K mg C) (GS : FnOk P w K mg base CX0 1 fS fdS ["gaps"] spSums) (bS : Binds K fdS ["gaps"] []) (mS : mg "sums" = some (.ref fS)) (kS : PySem.W.keepIn K (.ref fS) = true)
    (GG : FnOk P w K mg base CX0 1 fG fdG ["self"] (spGaps C)) (bG : Binds K fdG ["self"] []) (mG : Meth K C "gaps" fG) : FnOk P w K mg base CX0 2 f fd ["rule"] (spLO C) := by
  refine F.ok scLO (fun vs H Q E h => ?_) (fun cdv A outer s H vs Q E hr h => ?_)
  · obtain ⟨p, g, t, o, gs, tl, rfl, _⟩ := h
    rfl
  · obtain ⟨p, g, t, o, gs, tl, rfl, R, k⟩ := h
    refine ⟨_, (pss_one (ps_ret (pe_call GS hr rfl mS kS bS .nil pass0 (pa_cons (pe_meth0 (pv 0) T.cl mG GG hr bG .nil pass0) pa_nil)))), ?_⟩
    obtain ⟨dx, hob⟩ := R.ob
    have hl := R.okG.1
    refine ⟨_, rfl, p, dx, _, rfl, hob, flds_no _ _ _ (by decide +kernel) (by decide +kernel) (by decide +kernel), p, g, t, o, gs, tl, rfl, R, fun l hl0 => ?_⟩
    have S := same_new (o := .lst (gs.map V.int)) hl0
    refine ⟨l, gs, rfl, upd_same, by omega, fun q H' hq S' hq' => k q H' (S.free hq) (S.trans S') hq'⟩
def spRO (C : Addr) : Sp := fun vs H Q _ => ∃ (p g t o : Addr) (gs : List Int) (m : Nat), vs = [.ref p] ∧ RuleAt C H p g t o gs (.rep m) ∧ ∀ q H', H q = none → Same H H' → H' q = some (.lst ((repOffs gs m).map V.int)) → Q (.ref q) H'
theorem scRO : FnScope ["rule"] ["rule"] (defScope s_repeating_offsets) := ⟨rfl, rfl, rfl, by decide +kernel, rfl, by decide +kernel, by decide +kernel⟩
theorem ok_ro {f C fL fR : Addr} {fd fdL fdR : FuncData} (F : Fun K "repeating_offsets" "repeating_offsets" s_repeating_offsets f fd) (T : Txt K mg C) (GL : FnOk P w K mg base CX0 2 fL fdL ["rule"] (spLO C)) (bL : Binds K fdL ["rule"] []) (mL : mg "listed_offsets" = some (.ref fL)) (kL : PySem.W.keepIn K (.ref fL) = true)
    (GR : FnOk P w K mg base CX0 1 fR fdR ["self"] (spFR C)) (bR : Binds K fdR ["self"] []) (mR : Meth K C "first_repeating" fR) : FnOk P w K mg base CX0 3 f fd ["rule"] (spRO C) := by
  refine F.ok scRO (fun vs H Q E h => ?_) (fun cdv A outer s H vs Q E hr h => ?_)
  · obtain ⟨p, g, t, o, gs, m, rfl, _⟩ := h
    rfl
  · obtain ⟨p, g, t, o, gs, m, rfl, R, k⟩ := h
    have hr1 := hr.mono (show 1 ≤ 2 by decide)
    refine ⟨_, (pss_cons (ps_if (pt_cmpR op_isN (pe_meth0 (pv 0) T.cl mR GR hr1 bR .nil pass0) pe_non (nomark _)) (pss_one (ps_ret (pe_lst pa_nil))) pss_nil) (pss_one (ps_ret (pe_slice sl_list (pe_call GL hr rfl mL kL bL .nil pass0 (pa_cons (pv 0) pa_nil)) (po_some (pe_meth0 (pv 0) T.cl mR GR hr1 bR .nil pass0)) (po_some (pe_un un_neg pe_int)))))), ?_⟩
    obtain ⟨dx, hob⟩ := R.ob
    have hm0 : 1 ≤ m := R.okT.1
    have hm1 : m ≤ gs.length := R.okT.2
    have nF : (flds g t o).lookup ("first_repeating" : Str) = none := flds_no _ _ _ (by decide +kernel) (by decide +kernel) (by decide +kernel)
    refine ⟨_, rfl, p, dx, _, rfl, hob, nF, p, g, t, o, gs, m, rfl, R, rfl, _, rfl, iteFb (decide_eq_false fun e => nomatch e) ?_⟩
    refine ⟨_, rfl, p, g, t, o, gs, .rep m, rfl, R, fun q H1 hq S1 hq1 => ?_⟩
    have R1 := R.mono S1
    obtain ⟨dx1, hob1⟩ := R1.ob
    refine ⟨_, rfl, p, dx1, _, rfl, hob1, nF, p, g, t, o, gs, m, rfl, R1, _, rfl, _, rfl, _, rfl, q, _, rfl, SqL.of hq1, fun l hl => ?_⟩
    rw [cut_offs hm0 hm1]
    exact k l _ (S1.free hl) (S1.trans (same_new hl)) upd_same
end
end RS
namespace RS
open PySem L2
theorem resid_nodup {gs : List Int} {m : Nat} (okG : GapsOk gs) (h1 : 1 ≤ m) (h2 : m ≤ gs.length) (s : Int) : (resid gs m s).Nodup := by
  unfold resid repOffs
  rw [List.map_map]
  refine List.pairwise_map.mpr ((List.pairwise_lt_range (n := m)).imp_of_mem fun {i j} hi hj hij => ?_)
  have hi := List.mem_range.mp hi
  have hj := List.mem_range.mp hj
  show (s + pre gs (gs.length - m + i)) % per gs m ≠ (s + pre gs (gs.length - m + j)) % per gs m
  intro e
  have a := pre_mono okG (gs.length - m + i) (j - i) (by omega)
  rw [show gs.length - m + i + (j - i) = gs.length - m + j by omega] at a
  have b := pre_mono okG (gs.length - m) i (by omega)
  have c := pre_mono okG (gs.length - m + j) (m - j) (by omega)
  rw [show gs.length - m + j + (m - j) = gs.length by omega] at c
  have hp : per gs m = pre gs gs.length - pre gs (gs.length - m) := rfl
  have d := Int.emod_eq_emod_iff_emod_sub_eq_zero.mp e.symm
  rw [Int.emod_eq_of_lt (by omega) (by omega)] at d
  omega
def tabOf (gs : List Int) (m : Nat) (bs : List Int) : List (List Int) := bs.map (resid gs m)
end RS
namespace RS
open PySem L2
def hereF (T : List (List Int)) (M : List Nat) : Int → List Nat := fun r => M.filter fun c => decide (r ∈ T.getD c [])
theorem hereF_mem {T : List (List Int)} {M : List Nat} {r : Int} {c : Nat} : c ∈ hereF T M r ↔ c ∈ M ∧ r ∈ T.getD c [] := by
  unfold hereF
  rw [List.mem_filter, decide_eq_true_iff]
theorem hereF_len (T : List (List Int)) (M : List Nat) (r : Int) : (hereF T M r).length ≤ M.length := List.length_filter_le ..
end RS
namespace RS
open PySem L2
/-! ### slices -/
theorem cut_to (xs : List V) (n : Nat) : cutV xs none (some (n : Int)) = xs.take n := by
  unfold cutV
  rw [HT.sIx_none, HT.sIx_nat, List.drop_zero, Nat.sub_zero]
  by_cases h : n ≤ xs.length
  · rw [Nat.min_eq_left h]
  · rw [Nat.min_eq_right (by omega), List.take_length, List.take_of_length_le (by omega)]
theorem cut_mid (xs : List V) (i n : Nat) : cutV xs (some (i : Int)) (some (n : Int)) = (xs.drop i).take (n - i) := by
  unfold cutV
  rw [HT.sIx_nat, HT.sIx_nat]
  by_cases h : i ≤ xs.length
  · rw [Nat.min_eq_left h]
    by_cases h2 : n ≤ xs.length
    · rw [Nat.min_eq_left h2]
    · rw [Nat.min_eq_right (by omega), List.take_of_length_le (by rw [List.length_drop]; exact Nat.le_refl _), List.take_of_length_le (by rw [List.length_drop]; omega)]
  · rw [show min i xs.length = xs.length by omega, List.drop_of_length_le (Nat.le_refl _), List.drop_of_length_le (show xs.length ≤ i by omega)]
    simp
theorem cut_back (xs : List V) {m : Nat} (h0 : 0 < m) (h : m ≤ xs.length) : cutV xs (some (-(m : Int))) none = xs.drop (xs.length - m) := by
  have e : HT.sIx xs.length 0 (some (-(m : Int))) = xs.length - m := by
    show (if -(m : Int) < 0 then (-(m : Int) + (xs.length : Int)).toNat else min (-(m : Int)).toNat xs.length) = _
    rw [if_pos (by omega)]
    omega
  unfold cutV
  rw [e, HT.sIx_none, List.take_of_length_le (by rw [List.length_drop]; exact Nat.le_refl _)]
theorem cut_from (xs : List V) {i : Nat} (h : i ≤ xs.length) : cutV xs (some (i : Int)) none = xs.drop i := by
  unfold cutV
  rw [HT.sIx_nat, HT.sIx_none, Nat.min_eq_left h, List.take_of_length_le (by rw [List.length_drop]; exact Nat.le_refl _)]
end RS
namespace RS
open PySem L2
/-! ### first attempts from a distance on: the mathematics -/
theorem gap_pos {gs : List Int} {tl : Tl} (okG : GapsOk gs) (okT : TlOk gs.length tl) {n : Nat} (hf : tl = .fin → n < gs.length) : 1 ≤ gapf gs tl n := by
  by_cases h : n < gs.length
  · rw [gap_low h]
    exact (gap_bd okG h).1
  · cases tl with
    | fin => exact absurd (hf rfl) h
    | times b =>
      rw [gap_times (by omega)]
      have h1 : 1 ≤ lastG gs := (gap_bd okG (k := gs.length - 1) (by have := okT.1; omega)).1
      have h2 : 0 < b ^ (n - gs.length + 1) := Int.pow_pos (by have := okT.2.1; omega)
      have h3 := Int.mul_le_mul h1 (show 1 ≤ b ^ (n - gs.length + 1) by omega) (by decide) (by omega)
      omega
    | rep m =>
      rw [gap_rep (by omega)]
      have h1 : (n - gs.length) % m < m := Nat.mod_lt _ (by have := okT.1; omega)
      exact (gap_bd okG (by have := okT.2; omega)).1
theorem off_mono {gs : List Int} {tl : Tl} (okG : GapsOk gs) (okT : TlOk gs.length tl) (i : Nat) : ∀ k, (tl = .fin → i + k ≤ gs.length) → off gs tl i + (k : Int) ≤ off gs tl (i + k)
  | 0, _ => by simp
  | k + 1, h => by
    have ih := off_mono okG okT i k fun e => by have := h e; omega
    have hf : tl = .fin → i + k < gs.length := fun e => by have := h e; omega
    have hg := gap_pos okG okT hf
    have hs := off_succ okT hf
    rw [show i + (k + 1) = i + k + 1 by omega, hs]
    omega
theorem off_lt {gs : List Int} {tl : Tl} (okG : GapsOk gs) (okT : TlOk gs.length tl) {i j : Nat} (h : i < j) (hf : tl = .fin → j ≤ gs.length) : off gs tl i < off gs tl j := by
  have := off_mono okG okT i (j - i) fun e => by have := hf e; omega
  rw [show i + (j - i) = j by omega] at this
  omega
theorem AttOk.fin {gs : List Int} {tl : Tl} {n : Nat} (h : AttOk gs tl n) : tl = .fin → n ≤ gs.length := fun e => by subst e; exact h
/-- what first_from hands back -/
def FF (gs : List Int) (tl : Tl) (d : Int) (r : V) : Prop := (r = .non ∧ tl = .fin ∧ pre gs gs.length < d) ∨ ∃ n : Nat, r = .int (n : Int) ∧ AttOk gs tl n ∧ d ≤ off gs tl n ∧ (0 < n → off gs tl (n - 1) < d)
theorem FF_one {gs : List Int} {tl : Tl} (okG : GapsOk gs) (okT : TlOk gs.length tl) {d : Int} {r s : V} (h1 : FF gs tl d r) (h2 : FF gs tl d s) : r = s := by
  have key : ∀ {n m : Nat}, AttOk gs tl n → AttOk gs tl m → d ≤ off gs tl n → (0 < m → off gs tl (m - 1) < d) → ¬ n < m := by
    intro n m hn hm h3 h4 h5
    have h6 := h4 (by omega)
    have h7 : off gs tl n ≤ off gs tl (m - 1) := by
      by_cases e : n = m - 1
      · rw [← e]
        exact Int.le_refl _
      · exact Int.le_of_lt (off_lt okG okT (by omega) fun e => by have := hm.fin e; omega)
    omega
  have low : ∀ {n : Nat}, tl = .fin → AttOk gs tl n → d ≤ off gs tl n → ¬ pre gs gs.length < d := by
    intro n e hn h3 h4
    subst e
    have hn : n ≤ gs.length := hn
    have h5 := off_mono okG okT n (gs.length - n) fun _ => by omega
    rw [show n + (gs.length - n) = gs.length by omega, off_low (Nat.le_refl gs.length)] at h5
    omega
  rcases h1 with ⟨rfl, e1, l1⟩ | ⟨n, rfl, a1, b1, c1⟩ <;> rcases h2 with ⟨rfl, e2, l2⟩ | ⟨m, rfl, a2, b2, c2⟩
  · rfl
  · exact absurd l1 (low e1 a2 b2)
  · exact absurd l2 (low e2 a1 b1)
  · have x := key a1 a2 b1 c2
    have y := key a2 a1 b2 c1
    rw [show n = m by omega]
/-- what attempt_at hands back -/
def AA (gs : List Int) (tl : Tl) (d : Int) (r : V) : Prop := ∃ a, FF gs tl d a ∧ ((∃ n : Nat, a = .int (n : Int) ∧ off gs tl n = d ∧ r = a) ∨ ((∀ n : Nat, a = .int (n : Int) → off gs tl n ≠ d) ∧ r = .non))
theorem off_turn {gs : List Int} {m : Nat} (h1 : 1 ≤ m) (h2 : m ≤ gs.length) {j : Nat} (hj0 : gs.length - m ≤ j) (hj1 : j ≤ gs.length) (q : Nat) : off gs (.rep m) (j + m * q) = pre gs j + (q : Int) * per gs m := by
  cases q with
  | zero =>
    rw [Nat.mul_zero, Nat.add_zero, off_low hj1]
    simp
  | succ q =>
    have e0 : m * (q + 1) = m * q + m := Nat.mul_succ m q
    rw [off_rep h1 h2 (by omega)]
    by_cases hj : j = gs.length
    · subst hj
      rw [show gs.length + m * (q + 1) - gs.length = m * (q + 1) by omega, Nat.mul_mod_right, Nat.mul_div_cancel_left _ (by omega), Nat.add_zero, Int.add_mul, Int.one_mul]
      have e1 : per gs m = pre gs gs.length - pre gs (gs.length - m) := rfl
      omega
    · rw [show j + m * (q + 1) - gs.length = (j - (gs.length - m)) + m * q by omega, Nat.add_mul_mod_self_left, Nat.add_mul_div_left _ _ (by omega), Nat.mod_eq_of_lt (by omega), Nat.div_eq_of_lt (by omega), Nat.zero_add, show gs.length - m + (j - (gs.length - m)) = j by omega]
      rw [Int.natCast_add, Int.natCast_one]
end RS
namespace RS
open PySem L2
theorem pw_ext {α : Type} {r : α → α → Prop} (irr : ∀ x, ¬ r x x) (asym : ∀ x y, r x y → ¬ r y x) : ∀ {l m : List α}, l.Pairwise r → m.Pairwise r → (∀ x, x ∈ l ↔ x ∈ m) → l = m
  | [], [], _, _, _ => rfl
  | [], y :: m, _, _, h => nomatch (h y).mpr (List.mem_cons_self ..)
  | x :: l, [], _, _, h => nomatch (h x).mp (List.mem_cons_self ..)
  | x :: l, y :: m, hl, hm, h => by
    obtain ⟨hl1, hl2⟩ := List.pairwise_cons.mp hl
    obtain ⟨hm1, hm2⟩ := List.pairwise_cons.mp hm
    have e : x = y := by
      rcases List.mem_cons.mp ((h x).mp (List.mem_cons_self ..)) with z | z
      · exact z
      · rcases List.mem_cons.mp ((h y).mpr (List.mem_cons_self ..)) with z2 | z2
        · exact z2.symm
        · exact absurd (hm1 x z) (asym _ _ (hl1 y z2))
    subst e
    congr 1
    refine pw_ext irr asym hl2 hm2 fun z => ⟨fun hz => ?_, fun hz => ?_⟩
    · rcases List.mem_cons.mp ((h z).mp (List.mem_cons_of_mem _ hz)) with e | e
      · rw [e] at hz
        exact absurd (hl1 x hz) (irr x)
      · exact e
    · rcases List.mem_cons.mp ((h z).mpr (List.mem_cons_of_mem _ hz)) with e | e
      · rw [e] at hz
        exact absurd (hm1 x hz) (irr x)
      · exact e
end RS
namespace RS
open PySem L2
/-! ### services of a scene: the mathematics -/
/-- an attempt in a slot -/
def Att (gs : List Int) (tl : Tl) (b t : Int) : Prop := ∃ i : Nat, (tl = .fin → i ≤ gs.length) ∧ b + off gs tl i = t
def OutA (ws : List (Int × Int)) (t : Int) : Prop := ∃ w ∈ ws, w.1 ≤ t ∧ t < w.2
def Srv (S : List (Int × Nat)) (t : Int) (c : Nat) : Prop := ∃ u, u < t ∧ (u, c) ∈ S
def BusyA (S : List (Int × Nat)) (ℓ t : Int) : Prop := ∃ p ∈ S, p.1 < t ∧ t < p.1 + ℓ
/-- the service that a slot has -/
structure Can (gs : List Int) (tl : Tl) (bs : List Int) (ws : List (Int × Int)) (ℓ : Int) (S : List (Int × Nat)) (t : Int) (c : Nat) : Prop where
  lt : c < bs.length
  att : Att gs tl (bs.getD c 0) t
  new : ¬ Srv S t c
  out : ¬ OutA ws t
  busy : ¬ BusyA S ℓ t
  one : ∀ c', c' < bs.length → c' ≠ c → Att gs tl (bs.getD c' 0) t → Srv S t c'
structure GoodS (gs : List Int) (tl : Tl) (bs : List Int) (ws : List (Int × Int)) (ℓ : Int) (S : List (Int × Nat)) (F : Int) : Prop where
  asc : S.Pairwise fun p q => p.1 < q.1
  lt : ∀ p ∈ S, p.1 < F
  is : ∀ t c, t < F → ((t, c) ∈ S ↔ Can gs tl bs ws ℓ S t c)
/-- all services of a scene -/
structure RunS (gs : List Int) (tl : Tl) (bs : List Int) (ws : List (Int × Int)) (ℓ : Int) (S : List (Int × Nat)) : Prop where
  asc : S.Pairwise fun p q => p.1 < q.1
  is : ∀ t c, (t, c) ∈ S ↔ Can gs tl bs ws ℓ S t c
section
variable {gs : List Int} {tl : Tl} {bs : List Int} {ws : List (Int × Int)} {ℓ : Int}
theorem Can.congr {S S' : List (Int × Nat)} {t : Int} (h : ∀ u c, u < t → ((u, c) ∈ S ↔ (u, c) ∈ S')) {c : Nat} (x : Can gs tl bs ws ℓ S t c) : Can gs tl bs ws ℓ S' t c := by
  have hs : ∀ c, Srv S t c ↔ Srv S' t c := fun c => ⟨fun ⟨u, h1, h2⟩ => ⟨u, h1, (h u c h1).mp h2⟩, fun ⟨u, h1, h2⟩ => ⟨u, h1, (h u c h1).mpr h2⟩⟩
  refine ⟨x.lt, x.att, fun z => x.new ((hs c).mpr z), x.out, fun ⟨p, h1, h2, h3⟩ => x.busy ⟨p, (h p.1 p.2 h2).mpr h1, h2, h3⟩, fun c' h1 h2 h3 => (hs c').mp (x.one c' h1 h2 h3)⟩
theorem Can.iff {S S' : List (Int × Nat)} {t : Int} (h : ∀ u c, u < t → ((u, c) ∈ S ↔ (u, c) ∈ S')) {c : Nat} : Can gs tl bs ws ℓ S t c ↔ Can gs tl bs ws ℓ S' t c :=
  ⟨Can.congr h, Can.congr fun u c hu => (h u c hu).symm⟩
theorem att_ge (okG : GapsOk gs) (okT : TlOk gs.length tl) {b t : Int} (h : Att gs tl b t) : b ≤ t := by
  obtain ⟨i, hf, rfl⟩ := h
  have := off_mono okG okT 0 i (fun e => by have := hf e; omega)
  rw [off_low (Nat.zero_le _), pre_zero, Nat.zero_add] at this
  omega
/-- a least start -/
theorem start_low (bs : List Int) : ∃ lo : Int, ∀ c, c < bs.length → lo ≤ bs.getD c 0 := by
  induction bs with
  | nil => exact ⟨0, fun c h => absurd h (Nat.not_lt_zero _)⟩
  | cons b bs ih =>
    obtain ⟨lo, h⟩ := ih
    refine ⟨min lo b, fun c hc => ?_⟩
    cases c with
    | zero => show min lo b ≤ b; omega
    | succ c =>
      have := h c (by rw [List.length_cons] at hc; omega)
      show min lo b ≤ bs.getD c 0
      omega
/-- two lists of services agree as far as both are right -/
theorem good_one (okG : GapsOk gs) (okT : TlOk gs.length tl) {S S' : List (Int × Nat)} {F : Int} (h : ∀ t c, t < F → ((t, c) ∈ S ↔ Can gs tl bs ws ℓ S t c)) (h' : ∀ t c, t < F → ((t, c) ∈ S' ↔ Can gs tl bs ws ℓ S' t c)) : ∀ t c, t < F → ((t, c) ∈ S ↔ (t, c) ∈ S') := by
  obtain ⟨lo, hlo⟩ := start_low bs
  have key : ∀ n : Nat, ∀ t c, t < F → (t - lo).toNat < n → ((t, c) ∈ S ↔ (t, c) ∈ S') := by
    intro n
    induction n with
    | zero => intro t c _ h; exact absurd h (Nat.not_lt_zero _)
    | succ n ih =>
      intro t c ht hn
      rw [h t c ht, h' t c ht]
      by_cases hl : t < lo
      · have no : ∀ T : List (Int × Nat), ¬ Can gs tl bs ws ℓ T t c := fun T x => by
          have h1 := att_ge okG okT x.att
          have h2 := hlo c x.lt
          omega
        exact ⟨fun x => absurd x (no S), fun x => absurd x (no S')⟩
      · refine Can.iff fun u c' hu => ?_
        by_cases hul : u < lo
        · have no : ∀ (T : List (Int × Nat)), ((u, c') ∈ T ↔ Can gs tl bs ws ℓ T u c') → (u, c') ∉ T := fun T e z => by
            have x := e.mp z
            have h1 := att_ge okG okT x.att
            have h2 := hlo c' x.lt
            omega
          exact ⟨fun z => absurd z (no S (h u c' (by omega))), fun z => absurd z (no S' (h' u c' (by omega)))⟩
        · exact ih u c' (by omega) (by omega)
  exact fun t c ht => key ((t - lo).toNat + 1) t c ht (Nat.lt_succ_self _)
theorem RunS.one (okG : GapsOk gs) (okT : TlOk gs.length tl) {S S' : List (Int × Nat)} (h : RunS gs tl bs ws ℓ S) (h' : RunS gs tl bs ws ℓ S') : S = S' := by
  refine pw_ext (r := fun p q : Int × Nat => p.1 < q.1) (fun x => Int.lt_irrefl _) (fun x y z => by omega) h.asc h'.asc fun x => ?_
  exact good_one okG okT (F := x.1 + 1) (fun t c _ => h.is t c) (fun t c _ => h'.is t c) x.1 x.2 (by omega)
theorem RunS.good {S : List (Int × Nat)} (h : RunS gs tl bs ws ℓ S) {F : Int} (hF : ∀ p ∈ S, p.1 < F) : GoodS gs tl bs ws ℓ S F := ⟨h.asc, hF, fun t c _ => h.is t c⟩
/-- nothing happens up to a later slot -/
theorem GoodS.skip {S : List (Int × Nat)} {F G : Int} (h : GoodS gs tl bs ws ℓ S F) (hFG : F ≤ G) (no : ∀ t c, F ≤ t → t < G → ¬ Can gs tl bs ws ℓ S t c) : GoodS gs tl bs ws ℓ S G :=
  ⟨h.asc, fun p hp => by have := h.lt p hp; omega, fun t c ht => by
    by_cases z : t < F
    · exact h.is t c z
    · exact ⟨fun y => by have := h.lt _ y; simp only at this; omega, fun y => absurd y (no t c (by omega) ht)⟩⟩
theorem GoodS.run {S : List (Int × Nat)} {F : Int} (h : GoodS gs tl bs ws ℓ S F) (no : ∀ t c, F ≤ t → ¬ Can gs tl bs ws ℓ S t c) : RunS gs tl bs ws ℓ S :=
  ⟨h.asc, fun t c => by
    by_cases z : t < F
    · exact h.is t c z
    · exact ⟨fun y => by have := h.lt _ y; simp only at this; omega, fun y => absurd y (no t c (by omega))⟩⟩
/-- one more service -/
theorem GoodS.serve {S : List (Int × Nat)} {s : Int} {c : Nat} (h : GoodS gs tl bs ws ℓ S s) (x : Can gs tl bs ws ℓ S s c) : GoodS gs tl bs ws ℓ (S ++ [(s, c)]) (s + 1) := by
  have mem : ∀ u c', u < s → ((u, c') ∈ S ↔ (u, c') ∈ S ++ [(s, c)]) := fun u c' hu => by
    rw [List.mem_append, List.mem_singleton]
    exact ⟨.inl, fun z => z.resolve_right fun e => by have := (Prod.mk.inj e).1; omega⟩
  refine ⟨List.pairwise_append.mpr ⟨h.asc, List.pairwise_singleton .., fun p hp q hq => ?_⟩, fun p hp => ?_, fun t c' ht => ?_⟩
  · rw [List.mem_singleton.mp hq]
    exact h.lt p hp
  · rcases List.mem_append.mp hp with hp | hp
    · have := h.lt p hp
      omega
    · rw [List.mem_singleton.mp hp]
      show s < s + 1
      omega
  · by_cases z : t < s
    · rw [← mem t c' z, h.is t c' z]
      exact Can.iff fun u c'' hu => mem u c'' (by omega)
    · have e : t = s := by omega
      subst e
      rw [← Can.iff (S := S) (fun u c'' hu => mem u c'' hu), List.mem_append, List.mem_singleton]
      constructor
      · rintro (y | y)
        · have := h.lt _ y
          simp only at this
          omega
        · have e2 : c' = c := (Prod.mk.inj y).2
          rw [e2]
          exact x
      · intro y
        refine .inr ?_
        by_cases e2 : c' = c
        · rw [e2]
        · exact absurd (x.one c' y.lt e2 y.att) y.new
end
end RS
namespace RS
open PySem L2
/-! ### the course of a scene: what holds in front of a slot -/
abbrev Tri3 := Int × Int × Int
/-- the clients of the loop that make an attempt in a slot -/
def hereL (gs : List Int) (tl : Tl) (bs : List Int) (M : List Nat) (t : Int) : List Nat := match tl with
  | .rep m => hereF (tabOf gs m bs) M (t % per gs m)
  | _ => []
theorem hereL_sub {gs : List Int} {tl : Tl} {bs : List Int} {M : List Nat} {t : Int} : (hereL gs tl bs M t).Sublist M := by
  cases tl with
  | rep m => exact List.filter_sublist
  | fin => exact List.nil_sublist M
  | times b => exact List.nil_sublist M
theorem res_att {gs : List Int} {m : Nat} (okG : GapsOk gs) (okT : TlOk gs.length (.rep m)) {b t : Int} (h : b + pre gs (gs.length - m) ≤ t) : Att gs (.rep m) b t ↔ t % per gs m ∈ resid gs m b := by
  have h1 : 1 ≤ m := okT.1
  have h2 : m ≤ gs.length := okT.2
  have hp := per_bd okG h1 h2
  have e : per gs m = pre gs gs.length - pre gs (gs.length - m) := rfl
  unfold resid repOffs
  rw [List.map_map, List.mem_map]
  constructor
  · rintro ⟨i, _, rfl⟩
    have hi : gs.length - m ≤ i := by
      rcases Nat.lt_or_ge i (gs.length - m) with z | z
      · have := off_lt (tl := .rep m) okG okT z (fun e => nomatch e)
        rw [off_low (n := gs.length - m) (by omega)] at this
        omega
      · exact z
    have hr : (i - (gs.length - m)) % m < m := Nat.mod_lt _ (by omega)
    refine ⟨(i - (gs.length - m)) % m, List.mem_range.mpr hr, ?_⟩
    have ei : i = (gs.length - m + (i - (gs.length - m)) % m) + m * ((i - (gs.length - m)) / m) := by
      have := Nat.mod_add_div (i - (gs.length - m)) m
      omega
    have et := off_turn (gs := gs) h1 h2 (j := gs.length - m + (i - (gs.length - m)) % m) (by omega) (by omega) ((i - (gs.length - m)) / m)
    rw [← ei] at et
    rw [et]
    show (b + pre gs (gs.length - m + (i - (gs.length - m)) % m)) % per gs m = _
    rw [← Int.add_assoc, Int.add_mul_emod_self_right]
  · rintro ⟨k, hk, ek⟩
    have hk := List.mem_range.mp hk
    have ek : (b + pre gs (gs.length - m + k)) % per gs m = t % per gs m := ek
    have d := Int.emod_eq_emod_iff_emod_sub_eq_zero.mp ek.symm
    obtain ⟨q, hq⟩ := Int.dvd_of_emod_eq_zero d
    have p1 := pre_mono okG (gs.length - m + k) (m - k) (by omega)
    rw [show gs.length - m + k + (m - k) = gs.length by omega] at p1
    have q0 : 0 ≤ q := by
      rcases Int.lt_or_le q 0 with z | z
      · have : per gs m * q ≤ per gs m * (-1) := Int.mul_le_mul_of_nonneg_left (by omega) (by omega)
        omega
      · exact z
    obtain ⟨n, rfl⟩ := Int.eq_ofNat_of_zero_le q0
    refine ⟨gs.length - m + k + m * n, (fun e => nomatch e), ?_⟩
    rw [off_turn (gs := gs) h1 h2 (j := gs.length - m + k) (by omega) (by omega) n, Int.mul_comm]
    omega
theorem twin_of {bs : List Int} {c : Nat} (hc : c < bs.length) (h : bs.count (bs.getD c 0) ≠ 1) : ∃ c', c' < bs.length ∧ c' ≠ c ∧ bs.getD c' 0 = bs.getD c 0 := by
  have e : bs.getD c 0 = bs[c] := by rw [List.getD_eq_getElem?_getD, List.getElem?_eq_getElem hc]; rfl
  have sp : bs = bs.take c ++ bs[c] :: bs.drop (c + 1) := by rw [List.getElem_cons_drop, List.take_append_drop]
  have hcnt : bs.count bs[c] = (bs.take c).count bs[c] + (1 + (bs.drop (c + 1)).count bs[c]) := by
    have := congrArg (List.count bs[c]) sp
    rw [List.count_append, List.count_cons_self] at this
    omega
  rw [e] at h
  rcases Nat.eq_zero_or_pos ((bs.take c).count bs[c]) with z | z
  · have z2 : 0 < (bs.drop (c + 1)).count bs[c] := by omega
    obtain ⟨j, hj, ej⟩ := List.mem_iff_getElem.mp (List.count_pos_iff.mp z2)
    rw [List.getElem_drop] at ej
    rw [List.length_drop] at hj
    refine ⟨c + 1 + j, by omega, by omega, ?_⟩
    rw [e, List.getD_eq_getElem?_getD, List.getElem?_eq_getElem (by omega)]
    exact ej
  · obtain ⟨j, hj, ej⟩ := List.mem_iff_getElem.mp (List.count_pos_iff.mp z)
    rw [List.getElem_take] at ej
    rw [List.length_take] at hj
    refine ⟨j, by omega, by omega, ?_⟩
    rw [e, List.getD_eq_getElem?_getD, List.getElem?_eq_getElem (by omega)]
    exact ej
structure CoInv (gs : List Int) (tl : Tl) (bs : List Int) (ws : List (Int × Int)) (ℓ : Int) (S : List (Int × Nat)) (free : Int) (Qs : List Tri3) (M : List Nat) (F : Int) : Prop where
  good : GoodS gs tl bs ws ℓ S F
  fr1 : ∀ t, F ≤ t → t < free → OutA ws t ∨ BusyA S ℓ t
  fr2 : ∀ p ∈ S, p.1 + ℓ ≤ free
  q : ∀ x ∈ Qs, ∃ c k : Nat, x = (bs.getD c 0 + off gs tl k, (c : Int), (k : Int)) ∧ c < bs.length ∧ (tl = .fin → k ≤ gs.length) ∧ F ≤ bs.getD c 0 + off gs tl k ∧ (∀ i, i < k → bs.getD c 0 + off gs tl i < F) ∧ (∀ m, tl = .rep m → k ≤ gs.length - m) ∧ (∀ u, (u, c) ∉ S) ∧ c ∉ M
  qn : (Qs.map fun x => x.2.1).Nodup
  m : ∀ c ∈ M, c < bs.length ∧ (∀ u, (u, c) ∉ S) ∧ ∃ m, tl = .rep m ∧ bs.getD c 0 + pre gs (gs.length - m) < F
  mn : M.Nodup
  all : ∀ c, c < bs.length → (∃ u, (u, c) ∈ S) ∨ c ∈ M ∨ (∃ x ∈ Qs, x.2.1 = (c : Int)) ∨ ∀ t, F ≤ t → ¬ Att gs tl (bs.getD c 0) t
  tw : ∀ p ∈ S, bs.count (bs.getD p.2 0) = 1
section
variable {gs : List Int} {tl : Tl} {bs : List Int} {ws : List (Int × Int)} {ℓ : Int} (okG : GapsOk gs) (okT : TlOk gs.length tl)
theorem CoInv.perm {S : List (Int × Nat)} {free F : Int} {Qs Qs' : List Tri3} {M : List Nat} (I : CoInv gs tl bs ws ℓ S free Qs M F) (p : Qs'.Perm Qs) : CoInv gs tl bs ws ℓ S free Qs' M F :=
  ⟨I.good, I.fr1, I.fr2, fun x hx => I.q x (p.mem_iff.mp hx), ((p.map _).nodup_iff).mpr I.qn, I.m, I.mn, fun c hc => (I.all c hc).imp id fun h => h.imp id fun h => h.imp (fun ⟨x, h1, h2⟩ => ⟨x, p.mem_iff.mpr h1, h2⟩) id, I.tw⟩
include okG okT
theorem here_att {S : List (Int × Nat)} {free F t : Int} {Qs : List Tri3} {M : List Nat} (I : CoInv gs tl bs ws ℓ S free Qs M F) (ht : F ≤ t) {c : Nat} (hc : c ∈ M) : c ∈ hereL gs tl bs M t ↔ Att gs tl (bs.getD c 0) t := by
  obtain ⟨h1, _, m, rfl, h2⟩ := I.m c hc
  rw [res_att okG okT (by omega)]
  show c ∈ hereF (tabOf gs m bs) M (t % per gs m) ↔ _
  rw [hereF_mem]
  have e : (tabOf gs m bs).getD c [] = resid gs m (bs.getD c 0) := by
    unfold tabOf
    rw [List.getD_eq_getElem?_getD, List.getElem?_map, List.getElem?_eq_getElem h1, List.getD_eq_getElem?_getD, List.getElem?_eq_getElem h1]
    rfl
  rw [e]
  exact ⟨fun z => z.2, fun z => ⟨hc, z⟩⟩
theorem q_att {S : List (Int × Nat)} {free F t : Int} {Qs : List Tri3} {M : List Nat} (I : CoInv gs tl bs ws ℓ S free Qs M F) (ht : F ≤ t) {x : Tri3} (hx : x ∈ Qs) {c : Nat} (hc : x.2.1 = (c : Int)) (ha : Att gs tl (bs.getD c 0) t) : x.1 ≤ t := by
  obtain ⟨c', k, rfl, h1, h2, h3, h4, h5, _⟩ := I.q x hx
  have hc : (c' : Int) = (c : Int) := hc
  have e : c' = c := by omega
  subst e
  obtain ⟨i, hf, rfl⟩ := ha
  show bs.getD c' 0 + off gs tl k ≤ _
  rcases Nat.lt_or_ge i k with z | z
  · have := h4 i z
    omega
  · have := off_mono okG okT k (i - k) (fun e => by have := hf e; omega)
    rw [show k + (i - k) = i by omega] at this
    omega
theorem co_none {S : List (Int × Nat)} {free F t : Int} {Qs : List Tri3} {M : List Nat} (I : CoInv gs tl bs ws ℓ S free Qs M F) (ht : F ≤ t) (hq : ∀ x ∈ Qs, t < x.1) (hl : free ≤ t → (hereL gs tl bs M t).length ≠ 1) (c : Nat) : ¬ Can gs tl bs ws ℓ S t c := fun x => by
  by_cases hf : t < free
  · rcases I.fr1 t ht hf with z | z
    · exact x.out z
    · exact x.busy z
  · have un : ∀ c', (∀ u, (u, c') ∉ S) → ¬ Srv S t c' := fun c' h ⟨u, _, z⟩ => h u z
    rcases I.all c x.lt with ⟨u, h⟩ | h | ⟨y, h1, h2⟩ | h
    · exact x.new ⟨u, by have := I.good.lt _ h; simp only at this; omega, h⟩
    · have hc := (here_att okG okT I ht h).mpr x.att
      have nd : (hereL gs tl bs M t).Nodup := I.mn.sublist hereL_sub
      have hlen := hl (by omega)
      obtain ⟨c', h1, h2⟩ : ∃ c' ∈ hereL gs tl bs M t, c' ≠ c := by
        generalize hereL gs tl bs M t = l at hc nd hlen
        match l with
        | [] => cases hc
        | [y] => exact absurd rfl hlen
        | y :: z :: r =>
          by_cases e : y = c
          · refine ⟨z, List.mem_cons_of_mem _ (List.mem_cons_self ..), fun e2 => ?_⟩
            have := (List.nodup_cons.mp nd).1
            rw [e, ← e2] at this
            exact this (List.mem_cons_self ..)
          · exact ⟨y, List.mem_cons_self .., e⟩
      have hm' : c' ∈ M := hereL_sub.subset h1
      have hs := x.one c' (I.m c' hm').1 h2 ((here_att okG okT I ht hm').mp h1)
      exact un c' (I.m c' hm').2.1 hs
    · have := q_att okG okT I ht h1 h2 x.att
      have := hq y h1
      omega
    · exact h t ht x.att
/-- no client with a start of its own is left -/
theorem co_stop {S : List (Int × Nat)} {free F : Int} {Qs : List Tri3} {M : List Nat} (I : CoInv gs tl bs ws ℓ S free Qs M F) (h : ∀ c, c < bs.length → bs.count (bs.getD c 0) = 1 → ∃ u, (u, c) ∈ S) : RunS gs tl bs ws ℓ S :=
  I.good.run fun t c ht x => by
    by_cases e : bs.count (bs.getD c 0) = 1
    · obtain ⟨u, hu⟩ := h c x.lt e
      exact x.new ⟨u, by have := I.good.lt _ hu; simp only at this; omega, hu⟩
    · obtain ⟨c', h1, h2, h3⟩ := twin_of x.lt e
      obtain ⟨u, _, hu⟩ := x.one c' h1 h2 (by rw [h3]; exact x.att)
      have := I.tw _ hu
      simp only at this
      rw [h3] at this
      exact e this
theorem CoInv.skip {S : List (Int × Nat)} {free F s : Int} {Qs : List Tri3} {M : List Nat} (I : CoInv gs tl bs ws ℓ S free Qs M F) (hs : F ≤ s) (hq : ∀ x ∈ Qs, s ≤ x.1) (hl : ∀ t, free ≤ t → t < s → (hereL gs tl bs M t).length ≠ 1) : CoInv gs tl bs ws ℓ S free Qs M s := by
  refine ⟨I.good.skip hs fun t c h1 h2 => co_none okG okT I h1 (fun x hx => by have := hq x hx; omega) (fun hf => hl t hf h2) c, fun t h1 h2 => I.fr1 t (by omega) h2, I.fr2, fun x hx => ?_, I.qn, fun c hc => ?_, I.mn, fun c hc => ?_, I.tw⟩
  · obtain ⟨c, k, rfl, h1, h2, h3, h4, h5, h6⟩ := I.q x hx
    exact ⟨c, k, rfl, h1, h2, hq _ hx, fun i hi => by have := h4 i hi; omega, h5, h6⟩
  · obtain ⟨h1, h2, m, h3, h4⟩ := I.m c hc
    exact ⟨h1, h2, m, h3, by omega⟩
  · rcases I.all c hc with h | h | h | h
    · exact .inl h
    · exact .inr (.inl h)
    · exact .inr (.inr (.inl h))
    · exact .inr (.inr (.inr fun t ht => h t (by omega)))
end
end RS
namespace RS
open PySem L2
/-! ### the course of a scene: a slot is passed -/
/-- do the attempts repeat from this one on? -/
def beg (gs : List Int) (tl : Tl) (k : Int) : Bool := match tl with
  | .rep m => decide (k = ((gs.length - m : Nat) : Int))
  | _ => false
/-- is there no gap behind this attempt? -/
def endQ (gs : List Int) (tl : Tl) (k : Int) : Bool := match tl with
  | .fin => decide ((gs.length : Int) ≤ k)
  | _ => false
theorem endQ_iff {gs : List Int} {tl : Tl} {k : Int} : endQ gs tl k = true ↔ tl = .fin ∧ (gs.length : Int) ≤ k := by
  cases tl with
  | fin => exact ⟨fun h => ⟨rfl, of_decide_eq_true h⟩, fun h => decide_eq_true h.2⟩
  | rep m => exact ⟨(nomatch ·), (nomatch ·.1)⟩
  | times b => exact ⟨(nomatch ·), (nomatch ·.1)⟩
def cl (x : Tri3) : Nat := x.2.1.toNat
/-- the attempt behind one, in the queue's form -/
def nextQ (gs : List Int) (tl : Tl) (served : Option Nat) (x : Tri3) : Option Tri3 :=
  if served = some (cl x) then none else if endQ gs tl x.2.2 then none else some (x.1 + (off gs tl (x.2.2.toNat + 1) - off gs tl x.2.2.toNat), x.2.1, x.2.2 + 1)
def dueQ (gs : List Int) (tl : Tl) (P : List Tri3) : List Tri3 := P.filter fun x => !beg gs tl x.2.2
def entQ (gs : List Int) (tl : Tl) (P : List Tri3) : List Tri3 := P.filter fun x => beg gs tl x.2.2
section
variable {gs : List Int} {tl : Tl} {bs : List Int} {ws : List (Int × Int)} {ℓ : Int} (okG : GapsOk gs) (okT : TlOk gs.length tl)
theorem cl_of {x : Tri3} {c : Nat} (h : x.2.1 = (c : Int)) : cl x = c := by unfold cl; omega
/-- the clients that make an attempt in the slot -/
def slotCl (gs : List Int) (tl : Tl) (bs : List Int) (s : Int) (P : List Tri3) (M : List Nat) : List Nat :=
  (dueQ gs tl P).map cl ++ hereL gs tl bs (M ++ (entQ gs tl P).map cl) s
theorem ent_in {S : List (Int × Nat)} {free s : Int} {Qs P R : List Tri3} {M : List Nat} (I : CoInv gs tl bs ws ℓ S free Qs M s) (p : Qs.Perm (P ++ R)) (hP : ∀ x ∈ P, x.1 = s) {c : Nat} (hc : c ∈ M ++ (entQ gs tl P).map cl) :
    c < bs.length ∧ (∀ u, (u, c) ∉ S) ∧ ∃ m, tl = .rep m ∧ bs.getD c 0 + pre gs (gs.length - m) < s + 1 := by
  rcases List.mem_append.mp hc with h | h
  · obtain ⟨h1, h2, m, h3, h4⟩ := I.m c h
    exact ⟨h1, h2, m, h3, by omega⟩
  · obtain ⟨x, hx, rfl⟩ := List.mem_map.mp h
    obtain ⟨hxP, hb⟩ := List.mem_filter.mp hx
    obtain ⟨c, k, rfl, h1, h2, h3, h4, h5, h6, h7⟩ := I.q x (p.mem_iff.mpr (List.mem_append.mpr (.inl hxP)))
    rw [cl_of rfl]
    refine ⟨h1, h6, ?_⟩
    have hs := hP _ hxP
    simp only at hs hb
    match tl, hb with
    | .rep m, hb =>
      refine ⟨m, rfl, ?_⟩
      have hb : ((k : Int) = ((gs.length - m : Nat) : Int)) := of_decide_eq_true hb
      have e : k = gs.length - m := by omega
      subst e
      rw [off_low (Nat.sub_le ..)] at hs
      omega
theorem q_nodup {S : List (Int × Nat)} {free s : Int} {Qs P R : List Tri3} {M : List Nat} (I : CoInv gs tl bs ws ℓ S free Qs M s) (p : Qs.Perm (P ++ R)) : ((P ++ R).map cl).Nodup := by
  have h := ((p.map fun x => x.2.1).nodup_iff).mp I.qn
  have e : (P ++ R).map (fun x : Tri3 => x.2.1) = ((P ++ R).map cl).map fun c : Nat => (c : Int) := by
    rw [List.map_map]
    refine List.map_congr_left fun x hx => ?_
    obtain ⟨c, k, rfl, _⟩ := I.q x (p.mem_iff.mpr hx)
    show (c : Int) = ((cl _ : Nat) : Int)
    rw [cl_of rfl]
  rw [e] at h
  exact (List.pairwise_map.mp h).imp fun z e => z (congrArg (fun c : Nat => (c : Int)) e)
theorem m1_nodup {S : List (Int × Nat)} {free s : Int} {Qs P R : List Tri3} {M : List Nat} (I : CoInv gs tl bs ws ℓ S free Qs M s) (p : Qs.Perm (P ++ R)) : (M ++ (entQ gs tl P).map cl).Nodup := by
  have h := q_nodup I p
  rw [List.map_append] at h
  have hP := (List.nodup_append.mp h).1
  refine List.nodup_append.mpr ⟨I.mn, hP.sublist (List.filter_sublist.map _), fun a ha b hb e => ?_⟩
  obtain ⟨x, hx, rfl⟩ := List.mem_map.mp hb
  obtain ⟨c, k, rfl, _, _, _, _, _, _, h7⟩ := I.q x (p.mem_iff.mpr (List.mem_append.mpr (.inl (List.mem_filter.mp hx).1)))
  rw [cl_of rfl] at e
  exact h7 (e ▸ ha)
theorem cl_inj : ∀ {l : List Tri3}, (l.map cl).Nodup → ∀ {x y}, x ∈ l → y ∈ l → cl y = cl x → x = y := by
  intro l
  induction l with
  | nil => intro _ x y hx; cases hx
  | cons a l ih =>
    intro h x y hx hy e
    rw [List.map_cons, List.nodup_cons] at h
    rcases List.mem_cons.mp hx with ex | hx1
    · rcases List.mem_cons.mp hy with ey | hy1
      · rw [ex, ey]
      · have := List.mem_map_of_mem (f := cl) hy1
        rw [e, ex] at this
        exact absurd this h.1
    · rcases List.mem_cons.mp hy with ey | hy1
      · have := List.mem_map_of_mem (f := cl) hx1
        rw [← e, ey] at this
        exact absurd this h.1
      · exact ih h.2 hx1 hy1 e
theorem slot_nodup {S : List (Int × Nat)} {free s : Int} {Qs P R : List Tri3} {M : List Nat} (I : CoInv gs tl bs ws ℓ S free Qs M s) (p : Qs.Perm (P ++ R)) : (slotCl gs tl bs s P M).Nodup := by
  have h := q_nodup I p
  rw [List.map_append] at h
  have hP := (List.nodup_append.mp h).1
  refine List.nodup_append.mpr ⟨hP.sublist (List.filter_sublist.map _), (m1_nodup I p).sublist hereL_sub, fun a ha b hb e => ?_⟩
  subst e
  obtain ⟨x, hx, rfl⟩ := List.mem_map.mp ha
  obtain ⟨hxP, hxb⟩ := List.mem_filter.mp hx
  rcases List.mem_append.mp (hereL_sub.subset hb) with z | z
  · obtain ⟨c, k, rfl, _, _, _, _, _, _, h7⟩ := I.q x (p.mem_iff.mpr (List.mem_append.mpr (.inl hxP)))
    rw [cl_of rfl] at z
    exact h7 z
  · obtain ⟨y, hy, e⟩ := List.mem_map.mp z
    obtain ⟨hyP, hyb⟩ := List.mem_filter.mp hy
    have : x = y := by
      exact cl_inj hP hxP hyP e
    subst this
    rw [hyb] at hxb
    cases hxb
include okG okT
theorem slot_mem {S : List (Int × Nat)} {free s : Int} {Qs P R : List Tri3} {M : List Nat} (I : CoInv gs tl bs ws ℓ S free Qs M s) (p : Qs.Perm (P ++ R)) (hP : ∀ x ∈ P, x.1 = s) (hR : ∀ x ∈ R, s < x.1) {c : Nat} :
    c ∈ slotCl gs tl bs s P M ↔ c < bs.length ∧ (∀ u, (u, c) ∉ S) ∧ Att gs tl (bs.getD c 0) s := by
  have here : ∀ {c}, c ∈ M ++ (entQ gs tl P).map cl → (c ∈ hereL gs tl bs (M ++ (entQ gs tl P).map cl) s ↔ Att gs tl (bs.getD c 0) s) := by
    intro c hc
    obtain ⟨h1, _, m, rfl, h2⟩ := ent_in I p hP hc
    rw [res_att okG okT (by omega)]
    show c ∈ hereF (tabOf gs m bs) _ (s % per gs m) ↔ _
    rw [hereF_mem]
    have e : (tabOf gs m bs).getD c [] = resid gs m (bs.getD c 0) := by
      unfold tabOf
      rw [List.getD_eq_getElem?_getD, List.getElem?_map, List.getElem?_eq_getElem h1, List.getD_eq_getElem?_getD, List.getElem?_eq_getElem h1]
      rfl
    rw [e]
    exact ⟨fun z => z.2, fun z => ⟨hc, z⟩⟩
  constructor
  · intro h
    rcases List.mem_append.mp h with h | h
    · obtain ⟨x, hx, rfl⟩ := List.mem_map.mp h
      obtain ⟨hxP, _⟩ := List.mem_filter.mp hx
      obtain ⟨c, k, rfl, h1, h2, h3, h4, h5, h6, h7⟩ := I.q x (p.mem_iff.mpr (List.mem_append.mpr (.inl hxP)))
      have hs := hP _ hxP
      rw [cl_of rfl]
      exact ⟨h1, h6, k, h2, hs⟩
    · have hm := hereL_sub.subset h
      obtain ⟨h1, h2, _⟩ := ent_in I p hP hm
      exact ⟨h1, h2, (here hm).mp h⟩
  · rintro ⟨h1, h2, h3⟩
    rcases I.all c h1 with ⟨u, h⟩ | h | ⟨x, h, e⟩ | h
    · exact absurd h (h2 u)
    · exact List.mem_append.mpr (.inr ((here (List.mem_append.mpr (.inl h))).mpr h3))
    · have hx := q_att okG okT I (Int.le_refl s) h e h3
      rcases List.mem_append.mp (p.mem_iff.mp h) with z | z
      · by_cases hb : beg gs tl x.2.2 = true
        · have hm : c ∈ M ++ (entQ gs tl P).map cl := List.mem_append.mpr (.inr (List.mem_map.mpr ⟨x, List.mem_filter.mpr ⟨z, hb⟩, cl_of e⟩))
          exact List.mem_append.mpr (.inr ((here hm).mpr h3))
        · exact List.mem_append.mpr (.inl (List.mem_map.mpr ⟨x, List.mem_filter.mpr ⟨z, by simp [hb]⟩, cl_of e⟩))
      · have := hR x z
        omega
    · exact absurd h3 (h s (Int.le_refl s))
theorem co_step {S S' : List (Int × Nat)} {free free' s : Int} {Qs P R : List Tri3} {M M' : List Nat} {served : Option Nat} (I : CoInv gs tl bs ws ℓ S free Qs M s) (p : Qs.Perm (P ++ R)) (hP : ∀ x ∈ P, x.1 = s) (hR : ∀ x ∈ R, s < x.1)
    (hS : ∀ u c, (u, c) ∈ S' ↔ (u, c) ∈ S ∨ served = some c ∧ u = s) (hv : ∀ c, served = some c → c ∈ slotCl gs tl bs s P M)
    (hM : ∀ c, c ∈ M' ↔ c ∈ M ++ (entQ gs tl P).map cl ∧ served ≠ some c) (hMn : M'.Nodup)
    (good : GoodS gs tl bs ws ℓ S' (s + 1)) (fr1 : ∀ t, s + 1 ≤ t → t < free' → OutA ws t ∨ BusyA S' ℓ t) (fr2 : ∀ p ∈ S', p.1 + ℓ ≤ free') (tw : ∀ p ∈ S', bs.count (bs.getD p.2 0) = 1) :
    CoInv gs tl bs ws ℓ S' free' (R ++ (dueQ gs tl P).filterMap (nextQ gs tl served)) M' (s + 1) := by
  have nd := q_nodup I p
  rw [List.map_append] at nd
  obtain ⟨ndP, ndR, ndPR⟩ := List.nodup_append.mp nd
  have inQ : ∀ x, x ∈ P ++ R → x ∈ Qs := fun x hx => p.mem_iff.mpr hx
  have slotIn : ∀ c, c ∈ slotCl gs tl bs s P M → c ∈ P.map cl ∨ c ∈ M := fun c h => by
    rcases List.mem_append.mp h with h | h
    · exact .inl ((List.filter_sublist.map _).subset h)
    · rcases List.mem_append.mp (hereL_sub.subset h) with h | h
      · exact .inr h
      · exact .inl ((List.filter_sublist.map _).subset h)
  refine ⟨good, fr1, fr2, fun x hx => ?_, ?_, fun c hc => ?_, hMn, fun c hc => ?_, tw⟩
  · rcases List.mem_append.mp hx with hx | hx
    · obtain ⟨c, k, rfl, h1, h2, h3, h4, h5, h6, h7⟩ := I.q x (inQ x (List.mem_append.mpr (.inr hx)))
      have hs := hR _ hx
      have notP : c ∉ P.map cl := fun z => ndPR c z c (List.mem_map.mpr ⟨_, hx, cl_of rfl⟩) rfl
      refine ⟨c, k, rfl, h1, h2, hs, fun i hi => by have := h4 i hi; omega, h5, fun u hu => ?_, fun hm => ?_⟩
      · rcases (hS u c).mp hu with z | ⟨z, _⟩
        · exact h6 u z
        · rcases slotIn c (hv c z) with z | z
          · exact notP z
          · exact h7 z
      · rcases List.mem_append.mp ((hM c).mp hm).1 with z | z
        · exact h7 z
        · exact notP ((List.filter_sublist.map _).subset z)
    · obtain ⟨y, hy, e⟩ := List.mem_filterMap.mp hx
      obtain ⟨hyP, hyb⟩ := List.mem_filter.mp hy
      obtain ⟨c, k, rfl, h1, h2, h3, h4, h5, h6, h7⟩ := I.q y (inQ y (List.mem_append.mpr (.inl hyP)))
      have hs : bs.getD c 0 + off gs tl k = s := hP _ hyP
      unfold nextQ at e
      rw [cl_of rfl] at e
      split at e
      · cases e
      · rename_i hsv
        split at e
        · cases e
        · rename_i hg
          have e := (Option.some.inj e).symm
          have hg : ¬ (tl = .fin ∧ (gs.length : Int) ≤ (k : Int)) := fun z => hg (endQ_iff.mpr z)
          have lt1 : off gs tl k < off gs tl (k + 1) := off_lt okG okT (Nat.lt_succ_self k) (fun z => by
            have : ¬ (gs.length : Int) ≤ (k : Int) := fun y => hg ⟨z, y⟩
            omega)
          refine ⟨c, k + 1, ?_, h1, fun z => ?_, ?_, fun i hi => ?_, fun m hm => ?_, fun u hu => ?_, fun hm => ?_⟩
          · rw [e]
            refine Prod.ext ?_ (Prod.ext rfl ?_)
            · show bs.getD c 0 + off gs tl k + (off gs tl ((k : Int).toNat + 1) - off gs tl (k : Int).toNat) = _
              rw [Int.toNat_natCast]
              omega
            · show (k : Int) + 1 = ((k + 1 : Nat) : Int)
              omega
          · have : ¬ (gs.length : Int) ≤ (k : Int) := fun y => hg ⟨z, y⟩
            omega
          · omega
          · rcases Nat.lt_or_ge i k with z | z
            · have := h4 i z
              omega
            · have : i = k := by omega
              subst this
              omega
          · have h5 := h5 m hm
            subst hm
            have hb : beg gs (.rep m) (k : Int) = false := by simpa using hyb
            have : ¬ ((k : Int) = ((gs.length - m : Nat) : Int)) := of_decide_eq_false hb
            omega
          · rcases (hS u c).mp hu with z | ⟨z, _⟩
            · exact h6 u z
            · exact hsv z
          · rcases List.mem_append.mp ((hM c).mp hm).1 with z | z
            · exact h7 z
            · obtain ⟨y2, hy2, e2⟩ := List.mem_map.mp z
              obtain ⟨hy2P, hy2b⟩ := List.mem_filter.mp hy2
              have := cl_inj ndP hyP hy2P (by rw [e2, cl_of rfl])
              subst this
              simp [hy2b] at hyb
  · have e : ∀ l : List Tri3, ((l.filterMap (nextQ gs tl served)).map fun x => x.2.1).Sublist (l.map fun x => x.2.1) := by
      intro l
      induction l with
      | nil => exact List.Sublist.refl _
      | cons a l ih =>
        cases hn : nextQ gs tl served a with
        | none =>
          rw [List.filterMap_cons_none hn]
          exact ih.cons _
        | some b =>
          rw [List.filterMap_cons_some hn, List.map_cons, List.map_cons]
          have : b.2.1 = a.2.1 := by
            unfold nextQ at hn
            split at hn
            · cases hn
            · split at hn
              · cases hn
              · rw [← Option.some.inj hn]
          rw [this]
          exact ih.cons₂ _
    have h0 := ((p.map fun x => x.2.1).nodup_iff).mp I.qn
    rw [List.map_append] at h0 ⊢
    have h0 := (List.perm_append_comm.nodup_iff).mp h0
    exact h0.sublist ((List.Sublist.refl _).append ((e _).trans (List.filter_sublist.map _)))
  · obtain ⟨h1, h2⟩ := (hM c).mp hc
    obtain ⟨h3, h4, m, h5, h6⟩ := ent_in I p hP h1
    refine ⟨h3, fun u hu => ?_, m, h5, h6⟩
    rcases (hS u c).mp hu with z | ⟨z, _⟩
    · exact h4 u z
    · exact h2 z
  · by_cases hsv : served = some c
    · exact .inl ⟨s, (hS s c).mpr (.inr ⟨hsv, rfl⟩)⟩
    · rcases I.all c hc with ⟨u, h⟩ | h | ⟨x, h, e⟩ | h
      · exact .inl ⟨u, (hS u c).mpr (.inl h)⟩
      · exact .inr (.inl ((hM c).mpr ⟨List.mem_append.mpr (.inl h), hsv⟩))
      · rcases List.mem_append.mp (p.mem_iff.mp h) with z | z
        · by_cases hb : beg gs tl x.2.2 = true
          · exact .inr (.inl ((hM c).mpr ⟨List.mem_append.mpr (.inr (List.mem_map.mpr ⟨x, List.mem_filter.mpr ⟨z, hb⟩, cl_of e⟩)), hsv⟩))
          · have hd : x ∈ dueQ gs tl P := List.mem_filter.mpr ⟨z, by simp [hb]⟩
            by_cases hg : endQ gs tl x.2.2 = true
            · have hg := endQ_iff.mp hg
              refine .inr (.inr (.inr fun t ht ha => ?_))
              obtain ⟨c', k, rfl, h1, h2, h3, h4, h5, h6, h7⟩ := I.q x h
              have ec : c' = c := by have : (c' : Int) = (c : Int) := e; omega
              subst ec
              have hs : bs.getD c' 0 + off gs tl k = s := hP _ z
              obtain ⟨i, hi, rfl⟩ := ha
              have hi := hi hg.1
              have hk : (gs.length : Int) ≤ (k : Int) := hg.2
              have := off_mono okG okT i (k - i) (fun _ => by have := h2 hg.1; omega)
              rw [show i + (k - i) = k by omega] at this
              omega
            · refine .inr (.inr (.inl ⟨(x.1 + (off gs tl (x.2.2.toNat + 1) - off gs tl x.2.2.toNat), x.2.1, x.2.2 + 1), List.mem_append.mpr (.inr (List.mem_filterMap.mpr ⟨x, hd, ?_⟩)), e⟩))
              unfold nextQ
              rw [cl_of e, if_neg hsv, if_neg hg]
        · exact .inr (.inr (.inl ⟨x, List.mem_append.mpr (.inl z), e⟩))
      · exact .inr (.inr (.inr fun t ht => h t (by omega)))
/-- no one is served in the slot -/
theorem co_fail {S : List (Int × Nat)} {free free' s : Int} {Qs P R : List Tri3} {M : List Nat} (I : CoInv gs tl bs ws ℓ S free Qs M s) (p : Qs.Perm (P ++ R)) (hP : ∀ x ∈ P, x.1 = s) (hR : ∀ x ∈ R, s < x.1)
    (no : ∀ c, ¬ Can gs tl bs ws ℓ S s c) (fr1 : ∀ t, s + 1 ≤ t → t < free' → OutA ws t ∨ BusyA S ℓ t) (fr2 : free ≤ free') :
    CoInv gs tl bs ws ℓ S free' (R ++ (dueQ gs tl P).filterMap (nextQ gs tl none)) (M ++ (entQ gs tl P).map cl) (s + 1) := by
  refine co_step okG okT I p hP hR (fun u c => ⟨.inl, fun z => z.resolve_right fun y => nomatch y.1⟩) (fun c h => nomatch h) (fun c => ⟨fun z => ⟨z, fun h => nomatch h⟩, fun z => z.1⟩) (m1_nodup I p)
    (I.good.skip (by omega) fun t c h1 h2 => by have : t = s := by omega
                                                subst this; exact no c) fr1 (fun q hq => by have := I.fr2 q hq; omega) I.tw
theorem co_busy {S : List (Int × Nat)} {free s : Int} {Qs P R : List Tri3} {M : List Nat} (I : CoInv gs tl bs ws ℓ S free Qs M s) (p : Qs.Perm (P ++ R)) (hP : ∀ x ∈ P, x.1 = s) (hR : ∀ x ∈ R, s < x.1) (hf : s < free) :
    CoInv gs tl bs ws ℓ S free (R ++ (dueQ gs tl P).filterMap (nextQ gs tl none)) (M ++ (entQ gs tl P).map cl) (s + 1) :=
  co_fail okG okT I p hP hR (fun c x => (I.fr1 s (Int.le_refl s) hf).elim x.out x.busy) (fun t h1 h2 => I.fr1 t (by omega) h2) (Int.le_refl _)
theorem co_out {S : List (Int × Nat)} {free s : Int} {Qs P R : List Tri3} {M : List Nat} (I : CoInv gs tl bs ws ℓ S free Qs M s) (p : Qs.Perm (P ++ R)) (hP : ∀ x ∈ P, x.1 = s) (hR : ∀ x ∈ R, s < x.1) (hf : free ≤ s) {w : Int × Int} (hw : w ∈ ws) (h1 : w.1 ≤ s) (h2 : s < w.2) :
    CoInv gs tl bs ws ℓ S w.2 (R ++ (dueQ gs tl P).filterMap (nextQ gs tl none)) (M ++ (entQ gs tl P).map cl) (s + 1) :=
  co_fail okG okT I p hP hR (fun c x => x.out ⟨w, hw, h1, h2⟩) (fun t h3 h4 => .inl ⟨w, hw, by omega, h4⟩) (by omega)
theorem co_many {S : List (Int × Nat)} {free s : Int} {Qs P R : List Tri3} {M : List Nat} (I : CoInv gs tl bs ws ℓ S free Qs M s) (p : Qs.Perm (P ++ R)) (hP : ∀ x ∈ P, x.1 = s) (hR : ∀ x ∈ R, s < x.1) (hf : free ≤ s) (hl : (slotCl gs tl bs s P M).length ≠ 1) :
    CoInv gs tl bs ws ℓ S (s + 1) (R ++ (dueQ gs tl P).filterMap (nextQ gs tl none)) (M ++ (entQ gs tl P).map cl) (s + 1) := by
  refine co_fail okG okT I p hP hR (fun c x => ?_) (fun t h3 h4 => by omega) (by omega)
  have un : ∀ {c'}, Srv S s c' → ¬ ∀ u, (u, c') ∉ S := fun ⟨u, _, h⟩ z => z u h
  have hc : c ∈ slotCl gs tl bs s P M := (slot_mem okG okT I p hP hR).mpr ⟨x.lt, fun u hu => x.new ⟨u, I.good.lt _ hu, hu⟩, x.att⟩
  have nd := slot_nodup I p
  obtain ⟨c', h1, h2⟩ : ∃ c' ∈ slotCl gs tl bs s P M, c' ≠ c := by
    generalize slotCl gs tl bs s P M = l at hc nd hl
    match l with
    | [] => cases hc
    | [y] => exact absurd rfl hl
    | y :: z :: r =>
      by_cases e : y = c
      · refine ⟨z, List.mem_cons_of_mem _ (List.mem_cons_self ..), fun e2 => ?_⟩
        have := (List.nodup_cons.mp nd).1
        rw [e, ← e2] at this
        exact this (List.mem_cons_self ..)
      · exact ⟨y, List.mem_cons_self .., e⟩
  obtain ⟨h3, h4, h5⟩ := (slot_mem okG okT I p hP hR).mp h1
  exact un (x.one c' h3 h2 h5) h4
theorem co_serve {S : List (Int × Nat)} {free s : Int} {Qs P R : List Tri3} {M M' : List Nat} (I : CoInv gs tl bs ws ℓ S free Qs M s) (p : Qs.Perm (P ++ R)) (hP : ∀ x ∈ P, x.1 = s) (hR : ∀ x ∈ R, s < x.1) (hf : free ≤ s) (ho : ¬ OutA ws s) {c : Nat} (hl : slotCl gs tl bs s P M = [c])
    (hM : M' = (M ++ (entQ gs tl P).map cl).filter (· ≠ c)) :
    bs.count (bs.getD c 0) = 1 ∧ c < bs.length ∧ (∀ u, (u, c) ∉ S) ∧ CoInv gs tl bs ws ℓ (S ++ [(s, c)]) (s + ℓ) (R ++ (dueQ gs tl P).filterMap (nextQ gs tl (some c))) M' (s + 1) := by
  have hc : c ∈ slotCl gs tl bs s P M := by rw [hl]; exact List.mem_singleton.mpr rfl
  obtain ⟨h1, h2, h3⟩ := (slot_mem okG okT I p hP hR).mp hc
  have only : ∀ c', c' < bs.length → (∀ u, (u, c') ∉ S) → Att gs tl (bs.getD c' 0) s → c' = c := fun c' a b d => by
    have := (slot_mem okG okT I p hP hR).mpr ⟨a, b, d⟩
    rw [hl] at this
    exact List.mem_singleton.mp this
  have cnt : bs.count (bs.getD c 0) = 1 := Classical.byContradiction fun z => by
    obtain ⟨c', a, b, d⟩ := twin_of h1 z
    refine b (only c' a (fun u hu => ?_) (by rw [d]; exact h3))
    have := I.tw _ hu
    simp only at this
    rw [d] at this
    exact z this
  have can : Can gs tl bs ws ℓ S s c := ⟨h1, h3, fun ⟨u, _, z⟩ => h2 u z, ho, fun ⟨q, a, b, d⟩ => by have := I.fr2 q a; omega, fun c' a b d => Classical.byContradiction fun z => b (only c' a (fun u hu => z ⟨u, I.good.lt _ hu, hu⟩) d)⟩
  refine ⟨cnt, h1, h2, ?_⟩
  refine co_step okG okT I p hP hR (fun u c' => ?_) (fun c' e => by rw [← Option.some.inj e]; exact hc) (fun c' => ?_) ?_ (I.good.serve can) (fun t a b => .inr ⟨(s, c), List.mem_append.mpr (.inr (List.mem_singleton.mpr rfl)), by show s < t; omega, b⟩) (fun q hq => ?_) (fun q hq => ?_)
  · rw [List.mem_append, List.mem_singleton]
    constructor
    · rintro (z | z)
      · exact .inl z
      · obtain ⟨e1, e2⟩ := Prod.mk.inj z
        exact .inr ⟨by rw [e2], e1⟩
    · rintro (z | ⟨z, e⟩)
      · exact .inl z
      · rw [e, Option.some.inj z]
        exact .inr rfl
  · rw [hM, List.mem_filter]
    refine and_congr_right fun _ => ?_
    rw [decide_eq_true_iff]
    exact ⟨fun z e => z (Option.some.inj e).symm, fun z e => z (by rw [e])⟩
  · rw [hM]
    exact (m1_nodup I p).filter _
  · rcases List.mem_append.mp hq with z | z
    · have := I.good.lt _ z
      omega
    · rw [List.mem_singleton.mp z]
      exact Int.le_refl _
  · rcases List.mem_append.mp hq with z | z
    · exact I.tw _ z
    · rw [List.mem_singleton.mp z]
      exact cnt
end
end RS
namespace RS
open PySem L2
/-! ### growing gaps serve everyone with a start of its own -/
theorem nd_len {α : Type} [DecidableEq α] : ∀ {l m : List α}, l.Nodup → (∀ x ∈ l, x ∈ m) → l.length ≤ m.length
  | [], _, _, _ => Nat.zero_le _
  | a :: l, m, h, hm => by
    rw [List.nodup_cons] at h
    have ha := hm a (List.mem_cons_self ..)
    have ih := nd_len (m := m.erase a) h.2 fun x hx => (List.mem_erase_of_ne (fun e : x = a => h.1 (e ▸ hx))).mpr (hm x (List.mem_cons_of_mem _ hx))
    rw [List.length_erase_of_mem ha] at ih
    have := List.length_pos_of_mem ha
    rw [List.length_cons]
    omega
theorem filt_le {α : Type} {p q : α → Bool} (h : ∀ x, p x = true → q x = true) : ∀ l : List α, (l.filter p).length ≤ (l.filter q).length
  | [] => Nat.le_refl _
  | a :: l => by
    have ih := filt_le h l
    rw [List.filter_cons, List.filter_cons]
    cases e : p a with
    | true =>
      rw [h a e, if_pos rfl, if_pos rfl, List.length_cons, List.length_cons]
      omega
    | false =>
      rw [if_neg (by decide)]
      split
      · rw [List.length_cons]
        omega
      · exact ih
theorem filt_lt {α : Type} {p q : α → Bool} (h : ∀ x, p x = true → q x = true) : ∀ {l : List α} {y : α}, y ∈ l → q y = true → p y = false → (l.filter p).length < (l.filter q).length
  | a :: l, y, hy, h1, h2 => by
    have le := filt_le h l
    rcases List.mem_cons.mp hy with e | hy
    · subst e
      rw [List.filter_cons, List.filter_cons, h1, h2, if_neg (by decide), if_pos rfl, List.length_cons]
      omega
    · have ih := filt_lt h hy h1 h2
      rw [List.filter_cons, List.filter_cons]
      cases e : p a with
      | true =>
        rw [h a e, if_pos rfl, if_pos rfl, List.length_cons, List.length_cons]
        omega
      | false =>
        rw [if_neg (by decide)]
        split
        · rw [List.length_cons]
          omega
        · exact ih
theorem uniq_ne {bs : List Int} {c c' : Nat} (h : bs.count (bs.getD c 0) = 1) (hc : c < bs.length) (hc' : c' < bs.length) (ne : c' ≠ c) : bs.getD c' 0 ≠ bs.getD c 0 := fun e => by
  have gd : ∀ {i : Nat} (hi : i < bs.length), bs.getD i 0 = bs[i] := fun {i} hi => by rw [List.getD_eq_getElem?_getD, List.getElem?_eq_getElem hi]; rfl
  have two : ∀ {l : List Int} {i j : Nat} {x : Int}, i < j → l[i]? = some x → l[j]? = some x → 2 ≤ l.count x := by
    intro l
    induction l with
    | nil => intro i j x _ h1; cases h1
    | cons a l ih =>
      intro i j x hij h1 h2
      cases j with
      | zero => omega
      | succ j =>
        rw [List.getElem?_cons_succ] at h2
        have pos : 1 ≤ l.count x := List.count_pos_iff.mpr (List.mem_of_getElem? h2)
        cases i with
        | zero =>
          have : a = x := Option.some.inj h1
          rw [this, List.count_cons_self]
          omega
        | succ i =>
          have := ih (by omega) h1 h2
          rw [List.count_cons]
          omega
  have g1 : bs[c]? = some (bs.getD c 0) := by rw [gd hc, List.getElem?_eq_getElem hc]
  have g2 : bs[c']? = some (bs.getD c 0) := by rw [← e, gd hc', List.getElem?_eq_getElem hc']
  rcases Nat.lt_or_gt_of_ne ne with z | z
  · have := two z g2 g1
    omega
  · have := two z g1 g2
    omega
section
variable {gs : List Int} {tl : Tl} {bs : List Int} {ws : List (Int × Int)} {ℓ : Int} (okG : GapsOk gs)
include okG
theorem gap_two {b : Int} (okT : TlOk gs.length (.times b)) (d : Nat) : (2 : Int) ^ (d + 1) ≤ gapf gs (.times b) (gs.length + d) := by
  have h2 : 2 ≤ b := okT.2.1
  have hp : ∀ k : Nat, (2 : Int) ^ k ≤ b ^ k := fun k => by
    induction k with
    | zero => rw [Int.pow_zero, Int.pow_zero]; exact Int.le_refl _
    | succ k ih =>
      rw [Int.pow_succ, Int.pow_succ]
      have p : (0 : Int) < 2 ^ k := Int.pow_pos (by decide)
      exact Int.mul_le_mul ih h2 (by decide) (by omega)
  rw [gap_times (by omega), show gs.length + d - gs.length + 1 = d + 1 by omega]
  have h1 : 1 ≤ lastG gs := (gap_bd okG (k := gs.length - 1) (by have := okT.1; omega)).1
  have p := hp (d + 1)
  have p0 : (0 : Int) < 2 ^ (d + 1) := Int.pow_pos (by decide)
  have := Int.mul_le_mul h1 p (by omega) (by omega)
  omega
theorem off_two {b : Int} (okT : TlOk gs.length (.times b)) (d : Nat) : (2 : Int) ^ d ≤ off gs (.times b) (gs.length + d) := by
  have h0 : 1 ≤ gs.length := okT.1
  cases d with
  | zero =>
    rw [Int.pow_zero]
    have := off_mono okG okT 0 gs.length (fun e => nomatch e)
    rw [off_low (Nat.zero_le _), pre_zero, Nat.zero_add] at this
    show 1 ≤ off gs (.times b) gs.length
    omega
  | succ d =>
    have := gap_two okG okT d
    have h2 := off_succ okT (n := gs.length + d) (fun e => nomatch e)
    have h3 := off_mono okG okT 0 (gs.length + d) (fun e => nomatch e)
    rw [off_low (Nat.zero_le _), pre_zero, Nat.zero_add] at h3
    rw [show gs.length + (d + 1) = gs.length + d + 1 by omega]
    omega
theorem srv_len {F : Int} {S : List (Int × Nat)} (G : GoodS gs tl bs ws ℓ S F) : S.length ≤ bs.length := by
  have nd : (S.map Prod.snd).Nodup := List.pairwise_map.mpr (G.asc.imp_of_mem fun {p q} hp hq h e => ((G.is q.1 q.2 (G.lt q hq)).mp hq).new ⟨p.1, h, e ▸ hp⟩)
  have := nd_len (m := List.range bs.length) nd fun c hc => by
    obtain ⟨p, hp, rfl⟩ := List.mem_map.mp hc
    exact List.mem_range.mpr ((G.is p.1 p.2 (G.lt p hp)).mp hp).lt
  rw [List.length_map, List.length_range] at this
  exact this
theorem times_end {b lo hi F : Int} {N : Nat} {S : List (Int × Nat)} (okT : TlOk gs.length (.times b)) (hb : ∀ c, c < bs.length → lo ≤ bs.getD c 0 ∧ bs.getD c 0 ≤ hi) (hN : hi - lo + ℓ < 2 ^ N) (hw : ∀ w ∈ ws, w.2 ≤ lo + 2 ^ N) (hℓ : 0 ≤ ℓ)
    (G : GoodS gs (.times b) bs ws ℓ S F) (hF : lo + off gs (.times b) (gs.length + N + bs.length + 2) ≤ F) {c : Nat} (hc : c < bs.length) (h1 : bs.count (bs.getD c 0) = 1) : ∃ u, (u, c) ∈ S := by
  have mono : ∀ {i j : Nat}, i ≤ j → off gs (.times b) i ≤ off gs (.times b) j := fun {i j} h => by
    have := off_mono okG okT i (j - i) (fun e => nomatch e)
    rw [show i + (j - i) = j by omega] at this
    omega
  have wide : ∀ {j : Nat}, gs.length + N ≤ j → off gs (.times b) j + (hi - lo + ℓ) < off gs (.times b) (j + 1) := fun {j} h => by
    have a := gap_two okG okT (j - gs.length)
    rw [show gs.length + (j - gs.length) = j by omega] at a
    have e := off_succ okT (n := j) (fun e => nomatch e)
    have p : (2 : Int) ^ N ≤ 2 ^ (j - gs.length + 1) := by
      rw [show j - gs.length + 1 = N + (j - gs.length + 1 - N) by omega, Int.pow_add]
      have p1 : (0 : Int) < 2 ^ N := Int.pow_pos (by decide)
      have p2 : (0 : Int) < 2 ^ (j - gs.length + 1 - N) := Int.pow_pos (by decide)
      have := Int.mul_le_mul (Int.le_refl (2 ^ N)) (show (1 : Int) ≤ 2 ^ (j - gs.length + 1 - N) by omega) (by decide) (by omega)
      omega
    omega
  have far : ∀ w ∈ ws, w.2 ≤ lo + off gs (.times b) (gs.length + N) := fun w h => by
    have := hw w h
    have := off_two okG okT N
    omega
  have key : ∀ d, d ≤ bs.length + 1 → (∃ u, u < lo + off gs (.times b) (gs.length + N + 1 + d) ∧ (u, c) ∈ S) ∨ d ≤ (S.filter fun p => decide (p.1 < lo + off gs (.times b) (gs.length + N + 1 + d))).length := by
    intro d
    induction d with
    | zero => intro _; exact .inr (Nat.zero_le _)
    | succ d ih =>
      intro hd
      by_cases hu : ∃ u, u < lo + off gs (.times b) (gs.length + N + 1 + (d + 1)) ∧ (u, c) ∈ S
      · exact .inl hu
      · have st := off_lt okG okT (i := gs.length + N + 1 + d) (j := gs.length + N + 1 + (d + 1)) (by omega) (fun e => nomatch e)
        have ih := (ih (by omega)).resolve_left fun ⟨u, a, b⟩ => hu ⟨u, by omega, b⟩
        refine .inr ?_
        generalize hj : gs.length + N + 1 + d = j at *
        rw [show gs.length + N + 1 + (d + 1) = j + 1 by omega] at hu st ⊢
        have wj := wide (j := j) (by omega)
        have wp := wide (j := j - 1) (by omega)
        rw [show j - 1 + 1 = j by omega] at wp
        have bF : lo + off gs (.times b) (j + 1) ≤ F := by have := mono (i := j + 1) (j := gs.length + N + bs.length + 2) (by omega); omega
        have hbc := hb c hc
        suffices hp : ∃ p ∈ S, lo + off gs (.times b) j ≤ p.1 ∧ p.1 < lo + off gs (.times b) (j + 1) by
          obtain ⟨p, hp, p1, p2⟩ := hp
          have := filt_lt (p := fun p : Int × Nat => decide (p.1 < lo + off gs (.times b) j)) (q := fun p : Int × Nat => decide (p.1 < lo + off gs (.times b) (j + 1))) (fun x h => decide_eq_true (by have := of_decide_eq_true h; omega)) hp (decide_eq_true p2) (decide_eq_false (by omega))
          omega
        refine Classical.byContradiction fun hno => hu ⟨bs.getD c 0 + off gs (.times b) j, by omega, (G.is _ c (by omega)).mpr ⟨hc, ⟨j, (fun e => nomatch e), rfl⟩, fun ⟨u, h3, h4⟩ => hu ⟨u, by omega, h4⟩, fun ⟨w, h3, h4, h5⟩ => ?_, fun ⟨p, h3, h4, h5⟩ => ?_, fun c' h3 h4 h5 => ?_⟩⟩
        · have := far w h3
          have := mono (i := gs.length + N) (j := j) (by omega)
          omega
        · have pc := (G.is p.1 p.2 (G.lt p h3)).mp h3
          obtain ⟨i, _, hi2⟩ := pc.att
          have hbp := hb p.2 pc.lt
          rcases Nat.lt_or_ge i j with z | z
          · have := mono (i := i) (j := j - 1) (by omega)
            omega
          · have := mono z
            exact hno ⟨p, h3, by omega, by omega⟩
        · obtain ⟨i, _, hi2⟩ := h5
          have hbp := hb c' h3
          rcases Nat.lt_trichotomy i j with z | z | z
          · have := mono (i := i) (j := j - 1) (by omega)
            omega
          · subst z
            have e : bs.getD c' 0 = bs.getD c 0 := by omega
            exact absurd e (uniq_ne h1 hc h3 h4)
          · have := mono (i := j + 1) (j := i) (by omega)
            omega
  rcases key (bs.length + 1) (Nat.le_refl _) with ⟨u, _, h⟩ | h
  · exact ⟨u, h⟩
  · have := srv_len okG G
    have := List.length_filter_le (fun p : Int × Nat => decide (p.1 < lo + off gs (.times b) (gs.length + N + 1 + (bs.length + 1)))) S
    omega
end
end RS
namespace RS
open PySem L2
/-! ### the course of a scene: its start, its end -/
def startQ (bs : List Int) : List Tri3 := (List.range bs.length).map fun c => (bs.getD c 0, (c : Int), 0)
/-- the clients with a start of their own that are not served yet -/
def unS (bs : List Int) (S : List (Int × Nat)) : List Nat := (List.range bs.length).filter fun c => decide (bs.count (bs.getD c 0) = 1) && !decide (c ∈ S.map Prod.snd)
theorem un_start (bs : List Int) : (unS bs []).length = (bs.filter fun b => decide (bs.count b = 1)).length := by
  have e : bs = (List.range bs.length).map fun c => bs.getD c 0 := by
    refine List.ext_getElem? fun i => ?_
    rw [List.getElem?_map]
    by_cases h : i < bs.length
    · rw [List.getElem?_range h, List.getElem?_eq_getElem h]
      show _ = some (bs.getD i 0)
      rw [List.getD_eq_getElem?_getD, List.getElem?_eq_getElem h]
      rfl
    · rw [List.getElem?_eq_none (by omega), List.getElem?_eq_none (by rw [List.length_range]; omega)]
      rfl
  have e2 : (bs.filter fun b => decide (bs.count b = 1)).length = (((List.range bs.length).map fun c => bs.getD c 0).filter fun b => decide (bs.count b = 1)).length := by
    rw [← e]
  rw [e2, List.filter_map, List.length_map]
  unfold unS
  congr 1
  refine List.filter_congr fun c _ => ?_
  show (decide (bs.count (bs.getD c 0) = 1) && !decide (c ∈ [])) = decide (bs.count (bs.getD c 0) = 1)
  simp
theorem mem_un {bs : List Int} {S : List (Int × Nat)} {c : Nat} : c ∈ unS bs S ↔ c < bs.length ∧ bs.count (bs.getD c 0) = 1 ∧ ∀ u, (u, c) ∉ S := by
  unfold unS
  rw [List.mem_filter, List.mem_range, Bool.and_eq_true, decide_eq_true_iff, Bool.not_eq_true', decide_eq_false_iff_not]
  refine and_congr_right fun _ => and_congr_right fun _ => ⟨fun h u hu => h (List.mem_map.mpr ⟨_, hu, rfl⟩), fun h z => ?_⟩
  obtain ⟨⟨u, c'⟩, hp, e⟩ := List.mem_map.mp z
  have e : c' = c := e
  exact h u (e ▸ hp)
theorem un_nodup (bs : List Int) (S : List (Int × Nat)) : (unS bs S).Nodup := List.nodup_range.filter _
theorem un_serve {bs : List Int} {S : List (Int × Nat)} {c : Nat} {s : Int} (h1 : c < bs.length) (h2 : bs.count (bs.getD c 0) = 1) (h3 : ∀ u, (u, c) ∉ S) : (unS bs (S ++ [(s, c)])).length + 1 = (unS bs S).length := by
  have hm : c ∈ unS bs S := mem_un.mpr ⟨h1, h2, h3⟩
  have hp := List.length_pos_of_mem hm
  have p : (unS bs (S ++ [(s, c)])).Perm ((unS bs S).erase c) := by
    refine (List.perm_ext_iff_of_nodup (un_nodup _ _) ((un_nodup _ _).erase c)).mpr fun x => ?_
    rw [(un_nodup bs S).mem_erase_iff, mem_un, mem_un]
    constructor
    · rintro ⟨a, b, d⟩
      exact ⟨fun e => d s (List.mem_append.mpr (.inr (List.mem_singleton.mpr (by rw [e])))), a, b, fun u hu => d u (List.mem_append.mpr (.inl hu))⟩
    · rintro ⟨z, a, b, d⟩
      refine ⟨a, b, fun u hu => ?_⟩
      rcases List.mem_append.mp hu with y | y
      · exact d u y
      · exact z (Prod.mk.inj (List.mem_singleton.mp y)).2
  rw [p.length_eq, List.length_erase_of_mem hm]
  omega
theorem un_zero {bs : List Int} {S : List (Int × Nat)} (h : (unS bs S).length = 0) (c : Nat) (h1 : c < bs.length) (h2 : bs.count (bs.getD c 0) = 1) : ∃ u, (u, c) ∈ S := Classical.byContradiction fun z => by
  have := List.length_pos_of_mem (mem_un.mpr ⟨h1, h2, fun u hu => z ⟨u, hu⟩⟩)
  omega
/-! ### a measure -/
def mu (K : Nat) (Q : List Tri3) : Nat := (Q.map fun x => K + 1 - x.2.2.toNat).sum
theorem mu_perm {K : Nat} {Q Q' : List Tri3} (p : Q.Perm Q') : mu K Q = mu K Q' := (p.map _).sum_nat
theorem mu_app (K : Nat) (Q Q' : List Tri3) : mu K (Q ++ Q') = mu K Q + mu K Q' := by unfold mu; rw [List.map_append, List.sum_append]
theorem mu_next (gs : List Int) (tl : Tl) (served : Option Nat) {K : Nat} : ∀ {P : List Tri3}, (∀ x ∈ P, 0 ≤ x.2.2 ∧ x.2.2.toNat ≤ K) → mu K ((dueQ gs tl P).filterMap (nextQ gs tl served)) + P.length ≤ mu K P
  | [], _ => Nat.le_refl _
  | x :: P, h => by
    have ih := mu_next gs tl served (K := K) (P := P) fun y hy => h y (List.mem_cons_of_mem _ hy)
    obtain ⟨hx0, hx⟩ := h x (List.mem_cons_self ..)
    have e : mu K (x :: P) = K + 1 - x.2.2.toNat + mu K P := by unfold mu; rw [List.map_cons, List.sum_cons]
    rw [e, List.length_cons]
    unfold dueQ at ih ⊢
    rw [List.filter_cons]
    split
    · cases hn : nextQ gs tl served x with
      | none =>
        rw [List.filterMap_cons_none hn]
        omega
      | some y =>
        rw [List.filterMap_cons_some hn]
        have ey : y.2.2 = x.2.2 + 1 := by
          unfold nextQ at hn
          split at hn
          · cases hn
          · split at hn
            · cases hn
            · rw [← Option.some.inj hn]
        have e2 : ∀ l, mu K (y :: l) = K + 1 - y.2.2.toNat + mu K l := fun l => by unfold mu; rw [List.map_cons, List.sum_cons]
        rw [e2, ey]
        omega
    · omega
/-- the outages that are not behind -/
def winL (ws : List (Int × Int)) (free : Int) : Nat := (ws.filter fun w => decide (free < w.2)).length
theorem win_mono {ws : List (Int × Int)} {a b : Int} (h : a ≤ b) : winL ws b ≤ winL ws a := filt_le (fun x z => decide_eq_true (by have := of_decide_eq_true z; omega)) ws
theorem win_out {ws : List (Int × Int)} {a s : Int} {w : Int × Int} (hw : w ∈ ws) (h1 : a ≤ s) (h2 : s < w.2) : winL ws w.2 < winL ws a :=
  filt_lt (fun x z => decide_eq_true (by have := of_decide_eq_true z; omega)) hw (decide_eq_true (by omega)) (decide_eq_false (by omega))
/-- no attempt behind this one is asked for -/
def kTop (gs : List Int) (tl : Tl) (n N : Nat) : Nat := match tl with
  | .times _ => gs.length + N + n + 2
  | _ => gs.length
/-- the first slot in which one client of the loop is alone -/
def LoneH (gs : List Int) (tl : Tl) (bs : List Int) (M : List Nat) (q : Int) : Option Int → Prop
  | none => ∀ t, q ≤ t → (hereL gs tl bs M t).length ≠ 1
  | some s => q ≤ s ∧ (hereL gs tl bs M s).length = 1 ∧ ∀ t, q ≤ t → t < s → (hereL gs tl bs M t).length ≠ 1
section
variable {gs : List Int} {tl : Tl} {bs : List Int} {ws : List (Int × Int)} {ℓ : Int} (okG : GapsOk gs) (okT : TlOk gs.length tl)
include okG okT
theorem co_start {F : Int} (hF : ∀ c, c < bs.length → F ≤ bs.getD c 0) : CoInv gs tl bs ws ℓ [] F (startQ bs) [] F := by
  refine ⟨⟨List.Pairwise.nil, (fun p h => nomatch h), fun t c ht => ⟨(fun h => nomatch h), fun x => ?_⟩⟩, fun t h1 h2 => by omega, (fun p h => nomatch h), fun x hx => ?_, ?_, (fun c h => nomatch h), List.Pairwise.nil, fun c hc => .inr (.inr (.inl ⟨(bs.getD c 0, (c : Int), 0), List.mem_map.mpr ⟨c, List.mem_range.mpr hc, rfl⟩, rfl⟩)), (fun p h => nomatch h)⟩
  · have := att_ge okG okT x.att
    have := hF c x.lt
    omega
  · obtain ⟨c, hc, rfl⟩ := List.mem_map.mp hx
    have hc := List.mem_range.mp hc
    have o0 : off gs tl 0 = 0 := by rw [off_low (Nat.zero_le _), pre_zero]
    refine ⟨c, 0, ?_, hc, fun _ => Nat.zero_le _, by rw [o0]; have := hF c hc; omega, fun i hi => absurd hi (Nat.not_lt_zero _), fun m _ => Nat.zero_le _, (fun u h => nomatch h), (fun h => nomatch h)⟩
    rw [o0, Int.add_zero]
    rfl
  · unfold startQ
    rw [List.map_map]
    exact List.pairwise_map.mpr (List.nodup_range.imp fun h e => h (by
      have e : ((_ : Nat) : Int) = ((_ : Nat) : Int) := e
      omega))
theorem k_top {S : List (Int × Nat)} {free s lo hi : Int} {N : Nat} {Qs : List Tri3} {M : List Nat} (I : CoInv gs tl bs ws ℓ S free Qs M s) (hb : ∀ c, c < bs.length → lo ≤ bs.getD c 0 ∧ bs.getD c 0 ≤ hi) (hN : hi - lo + ℓ < 2 ^ N) (hw : ∀ w ∈ ws, w.2 ≤ lo + 2 ^ N) (hℓ : 0 ≤ ℓ)
    (hu : (unS bs S).length ≠ 0) {x : Tri3} (hx : x ∈ Qs) (hs : x.1 = s) : 0 ≤ x.2.2 ∧ x.2.2.toNat ≤ kTop gs tl bs.length N := by
  obtain ⟨c, k, rfl, h1, h2, h3, h4, h5, h6, h7⟩ := I.q x hx
  refine ⟨Int.natCast_nonneg k, ?_⟩
  show (k : Int).toNat ≤ _
  rw [Int.toNat_natCast]
  have hs : bs.getD c 0 + off gs tl k = s := hs
  cases tl with
  | fin => exact h2 rfl
  | rep m => have := h5 m rfl; show k ≤ gs.length; omega
  | times b =>
    refine Nat.le_of_not_lt fun z => hu ?_
    have z : gs.length + N + bs.length + 2 < k := z
    have := off_lt okG okT z (fun e => nomatch e)
    have hbc := hb c h1
    have all := fun c (hc : c < bs.length) (h1 : bs.count (bs.getD c 0) = 1) => times_end okG okT hb hN hw hℓ I.good (by omega) hc h1
    refine Nat.eq_zero_of_not_pos fun p => ?_
    obtain ⟨c', hc'⟩ := List.exists_mem_of_length_pos p
    obtain ⟨a1, a2, a3⟩ := mem_un.mp hc'
    obtain ⟨u, hu⟩ := all c' a1 a2
    exact a3 u hu
theorem co_end {S : List (Int × Nat)} {free F : Int} {M : List Nat} (I : CoInv gs tl bs ws ℓ S free [] M F) (hL : LoneH gs tl bs M free none) : RunS gs tl bs ws ℓ S :=
  I.good.run fun t c ht => co_none okG okT I ht (fun x hx => nomatch hx) (fun hf => hL t hf) c
theorem co_len {S : List (Int × Nat)} {free F : Int} {Qs : List Tri3} {M : List Nat} (I : CoInv gs tl bs ws ℓ S free Qs M F) : Qs.length ≤ bs.length ∧ M.length ≤ bs.length ∧ S.length ≤ bs.length := by
  refine ⟨?_, ?_, srv_len okG I.good⟩
  · have nd : (Qs.map cl).Nodup := by
      have := q_nodup I (P := Qs) (R := []) (by rw [List.append_nil])
      rwa [List.append_nil] at this
    have := nd_len (m := List.range bs.length) nd fun c hc => by
      obtain ⟨x, hx, rfl⟩ := List.mem_map.mp hc
      obtain ⟨c, k, rfl, h1, _⟩ := I.q x hx
      rw [cl_of rfl]
      exact List.mem_range.mpr h1
    rw [List.length_map, List.length_range] at this
    exact this
  · have := nd_len (m := List.range bs.length) I.mn fun c hc => List.mem_range.mpr (I.m c hc).1
    rw [List.length_range] at this
    exact this
end
end RS
namespace RS
open PySem L2
/-- tuples of two numbers -/
def TupsI (H : Hp) (rs : List Addr) (ps : List (Int × Int)) : Prop := rs.length = ps.length ∧ ∀ (j : Nat) (p : Int × Int), ps[j]? = some p → ∃ r, rs[j]? = some r ∧ H r = some (.tup [.int p.1, .int p.2])
theorem TupsI.kx {H H' : Hp} {rs : List Addr} {ps : List (Int × Int)} (t : TupsI H rs ps) (h : ∀ (r : Addr) (xs : List V), H r = some (.tup xs) → H' r = some (.tup xs)) : TupsI H' rs ps :=
  ⟨t.1, fun j p e => let ⟨r, a, b⟩ := t.2 j p e; ⟨r, a, h _ _ b⟩⟩
theorem TupsI.snoc {H : Hp} {rs : List Addr} {ps : List (Int × Int)} {r : Addr} {a b : Int} (t : TupsI H rs ps) (h : H r = some (.tup [.int a, .int b])) : TupsI H (rs ++ [r]) (ps ++ [(a, b)]) := by
  refine ⟨by rw [List.length_append, List.length_append, t.1]; rfl, fun j p e => ?_⟩
  by_cases hj : j < ps.length
  · rw [List.getElem?_append_left hj] at e
    obtain ⟨r', e1, e2⟩ := t.2 j p e
    exact ⟨r', by rw [List.getElem?_append_left (by rw [t.1]; exact hj)]; exact e1, e2⟩
  · have hl := (List.getElem?_eq_some_iff.mp e).1
    rw [List.length_append, List.length_singleton] at hl
    have ej : j = ps.length := by omega
    subst ej
    rw [List.getElem?_append_right (Nat.le_refl _), Nat.sub_self] at e
    cases e
    exact ⟨r, by rw [← t.1, List.getElem?_append_right (Nat.le_refl _), Nat.sub_self]; rfl, h⟩
theorem TupsI.nil {H : Hp} : TupsI H [] [] := ⟨rfl, fun _ _ e => nomatch e⟩
theorem TupsI.get {H : Hp} {rs : List Addr} {ps : List (Int × Int)} (t : TupsI H rs ps) {i : Nat} {x : V} (h : (rs.map V.ref)[i]? = some x) : ∃ r p, x = .ref r ∧ ps[i]? = some p ∧ H r = some (.tup [.int p.1, .int p.2]) := by
  rw [List.getElem?_map] at h
  cases e : rs[i]? with
  | none => rw [e] at h; cases h
  | some r =>
    rw [e] at h
    cases h
    have hl := (List.getElem?_eq_some_iff.mp e).1
    have hp : ps[i]? = some (ps[i]'(by rw [← t.1]; exact hl)) := List.getElem?_eq_getElem _
    obtain ⟨r', e1, e2⟩ := t.2 i _ hp
    rw [e] at e1
    cases e1
    exact ⟨r, _, rfl, hp, e2⟩
/-! ### lists of pairs as data -/
def winD (ws : List (Int × Int)) : List PyData := ws.map fun p => .tuple [.int p.1, .int p.2]
theorem win_can : ∀ ws : List (Int × Int), PyData.canLayAll0 (winD ws) = true
  | [] => rfl
  | p :: r => by
    show (PyData.canLay0 _ && PyData.canLayAll0 (winD r)) = true
    rw [win_can r]
    rfl
theorem win_depth : ∀ ws : List (Int × Int), PyData.depthAll (winD ws) ≤ 1
  | [] => by decide
  | p :: r => by
    have := win_depth r
    show max 1 (PyData.depthAll (winD r)) ≤ 1
    omega
theorem win_shaped (ws : List (Int × Int)) : SeqAt.shaped (.list (winD ws)) = true := by
  have h1 := win_can ws
  have h2 := win_depth ws
  show (PyData.canLayAll0 (winD ws) && decide (PyData.depthAll (winD ws) + 1 ≤ 64)) = true
  rw [h1, decide_eq_true (by omega)]
  rfl
theorem win_eqv : ∀ ws vs : List (Int × Int), PyData.eqvAll (winD ws) (winD vs) = decide (ws = vs)
  | [], [] => rfl
  | [], _ :: _ => rfl
  | _ :: _, [] => rfl
  | (a, b) :: r, (c, d) :: s => by
    show PyData.eqvAll (.tuple [.int a, .int b] :: winD r) (.tuple [.int c, .int d] :: winD s) = _
    have := win_eqv r s
    simp only [PyData.eqvAll, PyData.eqv, this]
    by_cases h1 : a = c <;> by_cases h2 : b = d <;> by_cases h3 : r = s <;> simp [h1, h2, h3]
theorem win_eqvL (ws vs : List (Int × Int)) : PyData.eqv (.list (winD ws)) (.list (winD vs)) = decide (ws = vs) := win_eqv ws vs
theorem tupsI_dp {K : PySem.W.Frag} {H : Hp} : ∀ {rs : List Addr} {ps : List (Int × Int)}, TupsI H rs ps → DpAll K H (rs.map V.ref) (winD ps)
  | [], [], _ => .nil
  | [], _ :: _, t => nomatch t.1
  | _ :: _, [], t => nomatch t.1
  | r :: rs, p :: ps, t => by
    obtain ⟨r', e1, e2⟩ := t.2 0 p rfl
    cases (Option.some.inj e1 : r = r')
    exact .cons (.tup (SqT.of e2) (.cons (.int _) (.cons (.int _) .nil))) (tupsI_dp ⟨Nat.succ.inj t.1, fun j q e => t.2 (j + 1) q e⟩)
theorem Src.nt {H : Hp} {a r : Addr} {b : Nat} {xs : List V} (S : Src H a b) (h : H r = some (.tup xs)) : r ≠ a := by
  obtain ⟨s0, s1, s2, h1, _⟩ := S.ex
  exact ne_of h h1 (by intro z; cases z)
theorem TupsI.kxs {H H' : Hp} {rs : List Addr} {ps : List (Int × Int)} {a : Addr} {b : Nat} (t : TupsI H rs ps) (S : Src H a b) (kx : Kx a H H') : TupsI H' rs ps := t.kx fun r xs e => kx r _ (S.nt e) e
theorem TupsI.same {H H' : Hp} {rs : List Addr} {ps : List (Int × Int)} (t : TupsI H rs ps) (S : Same H H') : TupsI H' rs ps := t.kx fun r xs e => S r _ e
end RS
namespace RS
open PySem L2
section
variable {P : Program} {w : World} {K : PySem.W.Frag} {mg : Str → Option Value} {base : Heap}
/-- a tuple of two integers -/
def spTwo : Sp := fun vs H Q _ => ∃ (r : Addr) (f e : Int), vs = [.ref r] ∧ H r = some (.tup [.int f, .int e]) ∧ Q (.bl true) H
theorem scTwo : FnScope ["value"] ["value"] (defScope s_are_two_integers) := ⟨rfl, rfl, rfl, by decide +kernel, rfl, by decide +kernel, by decide +kernel⟩
theorem ok_two {f C fI : Addr} {fd fdI : FuncData} (F : Fun K "are_two_integers" "are_two_integers" s_are_two_integers f fd) (T : Txt K mg C)
    (GI : FnOk P w K mg base CX0 1 fI fdI ["value"] spIsInt) (bI : Binds K fdI ["value"] []) (mI : mg "is_integer" = some (.ref fI)) (kI : PySem.W.keepIn K (.ref fI) = true) : FnOk P w K mg base CX0 2 f fd ["value"] spTwo := by
  refine F.ok scTwo (fun vs H Q E h => ?_) (fun cdv A outer s H vs Q E hr h => ?_)
  · obtain ⟨r, f, e, rfl, _⟩ := h
    rfl
  · obtain ⟨r, f, e, rfl, hr1, k⟩ := h
    refine ⟨_, (pss_cons (ps_if (PW.pt (pw_or (pt_not (pt_val (pe_callB call_isi (by rfl) T.isi (by decide +kernel) (pa_cons (pv 0) (pa_cons (pe_bltn (v := .ty "tuple") (by rfl) T.tuple (by decide +kernel) rfl) pa_nil))))) (pw_or1 (pt_cmpR op_ne (pe_callB call_len_seq (by rfl) T.len (by decide +kernel) (pa_cons (pv 0) pa_nil)) pe_int (nomark _))))) (pss_one (ps_ret pe_bl)) pss_nil) (pss_one (ps_ret (pe_and (pe_call GI hr rfl mI kI bI .nil pass0 (pa_cons (pe_ix ix_tup (pv 0) pe_int (fun _ _ => rfl)) pa_nil)) (pe_one (pe_call GI hr rfl mI kI bI .nil pass0 (pa_cons (pe_ix ix_tup (pv 0) pe_int (fun _ _ => rfl)) pa_nil))))))), ?_⟩
    refine ⟨_, rfl, _, _, _, _, _, rfl, .ty _, .base (.tup hr1), kit_ty (r := true) (by decide +kernel), true, rfl, iteF ?_⟩
    refine ⟨_, rfl, r, _, rfl, .inr (SqT.of hr1), rfl, _, rfl, iteFb (by rfl) ?_⟩
    refine ⟨_, rfl, r, _, _, _, rfl, rfl, SqT.of hr1, atI_nat (j := 0) rfl, f, rfl, true, rfl, iteT ?_⟩
    exact ⟨_, rfl, r, _, _, _, rfl, rfl, SqT.of hr1, atI_nat (j := 1) rfl, e, rfl, k⟩
def spIsO : Sp := fun vs H Q _ => ∃ (r : Addr) (f e : Int), vs = [.ref r] ∧ H r = some (.tup [.int f, .int e]) ∧ f < e ∧ Q (.bl true) H
theorem scIsO : FnScope ["value"] ["value"] (defScope s_are_slots) := ⟨rfl, rfl, rfl, by decide +kernel, rfl, by decide +kernel, by decide +kernel⟩
theorem ok_isO {f C fI : Addr} {fd fdI : FuncData} (F : Fun K "are_slots" "are_slots" s_are_slots f fd) (T : Txt K mg C)
    (GI : FnOk P w K mg base CX0 2 fI fdI ["value"] spTwo) (bI : Binds K fdI ["value"] []) (mI : mg "are_two_integers" = some (.ref fI)) (kI : PySem.W.keepIn K (.ref fI) = true) : FnOk P w K mg base CX0 3 f fd ["value"] spIsO := by
  refine F.ok scIsO (fun vs H Q E h => ?_) (fun cdv A outer s H vs Q E hr h => ?_)
  · obtain ⟨r, f, e, rfl, _⟩ := h
    rfl
  · obtain ⟨r, f, e, rfl, hr1, hfe, k⟩ := h
    refine ⟨_, (pss_one (ps_ret (pe_and (pe_call GI hr rfl mI kI bI .nil pass0 (pa_cons (pv 0) pa_nil)) (pe_one (pe_cmpR op_lt (pe_ix ix_tup (pv 0) pe_int (fun _ _ => rfl)) (pe_ix ix_tup (pv 0) pe_int (fun _ _ => rfl)) (nomark _)))))), ?_⟩
    refine ⟨_, rfl, r, f, e, rfl, hr1, true, rfl, iteT ?_⟩
    refine ⟨_, rfl, r, _, _, _, rfl, rfl, SqT.of hr1, atI_nat (j := 0) rfl, _, rfl, r, _, _, _, rfl, rfl, SqT.of hr1, atI_nat (j := 1) rfl, _, _, rfl, rfl, ?_⟩
    show Q (.bl (decide (f < e))) H
    rw [decide_eq_true hfe]
    exact k
end
end RS
namespace RS
open PySem L2
section
variable {P : Program} {w : World} {K : PySem.W.Frag} {mg : Str → Option Value} {base : Heap}
/-! ### check_starts: what is accepted -/
def spChS : Sp := fun vs H Q _ => ∃ (s : Addr) (bs : List Int) (few : Nat), vs = [.ref s, .int (few : Int)] ∧ H s = some (.lst (bs.map V.int)) ∧ few ≤ bs.length ∧ bs.length ≤ 40 ∧ ∀ H', Same H H' → Q .non H'
theorem scChS : FnScope ["value", "fewest", "at", "start"] ["value", "fewest"] (defScope s_check_starts) := ⟨rfl, rfl, rfl, by decide +kernel, rfl, by decide +kernel, by decide +kernel⟩
theorem ok_chS {f C fI : Addr} {fd fdI : FuncData} (F : Fun K "check_starts" "check_starts" s_check_starts f fd) (T : Txt K mg C) (mC : ∃ t, mg "MOST_CLIENTS" = some (.int 40 t))
    (GI : FnOk P w K mg base CX0 1 fI fdI ["value"] spIsInt) (bI : Binds K fdI ["value"] []) (mI : mg "is_integer" = some (.ref fI)) (kI : PySem.W.keepIn K (.ref fI) = true) : FnOk P w K mg base CX0 2 f fd ["value", "fewest"] spChS := by
  obtain ⟨t1, m1⟩ := mC
  refine F.ok scChS (fun vs H Q E h => ?_) (fun cdv A outer s H vs Q E hr h => ?_)
  · obtain ⟨s, bs, few, rfl, _⟩ := h
    rfl
  · obtain ⟨s, bs, few, rfl, hs, h1, h40, k⟩ := h
    refine ⟨_, (pss_cons (ps_if (PW.pt (pw_or (pt_not (pt_val (pe_callB call_isi (by rfl) T.isi (by decide +kernel) (pa_cons (pv 0) (pa_cons (pe_bltn (v := .ty "list") (by rfl) T.list (by decide +kernel) rfl) pa_nil))))) (pw_or1 (pt_not (pt_chain op_le op_le (pv 1) (pe_callB call_len_seq (by rfl) T.len (by decide +kernel) (pa_cons (pv 0) pa_nil)) (pe_glob (v := .int 40) rfl m1 ⟨_, rfl⟩)))))) (pss_one ps_never) pss_nil) (pss_one (ps_for PassesOwn.never rfl (pi_enum (by rfl) T.enum (pa_cons (pv 0) pa_nil)) (pg_tup rfl (pgs_cons (pg_name (i := 2) scChS.nd rfl (Or.inl rfl)) (pgs_cons (pg_name (i := 3) scChS.nd rfl (Or.inl rfl)) pgs_nil)))
        (pss_one (ps_if (pt_not (pt_val (pe_call GI hr rfl mI kI bI .nil pass0 (pa_cons (pv 3) pa_nil)))) (pss_one ps_never) pss_nil))))), ?_⟩
    refine ⟨_, rfl, _, _, _, _, _, rfl, .ty _, .base (.lst hs), kit_ty (r := true) (by decide +kernel), true, rfl, iteF ?_⟩
    refine ⟨_, rfl, _, rfl, s, _, rfl, .inl (SqL.of hs), _, _, rfl, rfl, _, rfl, ?_⟩
    rw [List.length_map]
    refine iteTb (decide_eq_true (by omega)) ?_
    refine ⟨_, _, rfl, rfl, _, rfl, iteFb (by rw [decide_eq_true (by omega)]; rfl) ?_⟩
    refine ⟨_, rfl, s, _, rfl, SqL.of hs, for_it (walk_enum (a := s) (xs := bs.map V.int)) (fun i σ H' => (∃ v1 v2, σ = [some (.ref s), some (.int (few : Int)), v1, v2]) ∧ Same H H') ⟨⟨_, _, rfl⟩, Same.refl H⟩ (fun i σ H' _ p => SqL.of (p.2 _ _ hs)) ?_ ?_⟩
    · rintro i x σ H1 H2 hi ⟨⟨v1, v2, rfl⟩, S⟩ ⟨T2, x1, y1, rfl, hT, rfl, hx1, hy1⟩
      obtain rfl := Option.some.inj hx1
      obtain ⟨b, _, rfl⟩ := map_of hy1
      have sT := same_new (o := .tup [V.int (i : Nat), .int b]) hT
      refine ⟨T2, _, rfl, SqT.of upd_same, rfl, _, _, rfl, _, _, rfl, rfl, ?_⟩
      exact ⟨_, rfl, b, rfl, true, rfl, iteF ⟨⟨_, _, rfl⟩, S.trans sT⟩⟩
    · rintro σ H1 ⟨_, S⟩
      exact k H1 S
end
end RS
namespace RS
open PySem L2
/-! ### what the walk asks of the class Scene -/
structure TxtS (K : PySem.W.Frag) (mg : Str → Option Value) (CS : Addr) : Prop where
  cl : Cls K CS
  nR : NoAttr K CS "_rule"
  nS : NoAttr K CS "_starts"
  nW : NoAttr K CS "_outages"
  nN : NoAttr K CS "_length"
  mgS : mg "Scene" = some (.ref CS)
  enum : mg "enumerate" = none
  mC : ∃ t, mg "MOST_CLIENTS" = some (.int 40 t)
  mO : ∃ t, mg "_MOST_OUTAGES" = some (.int 10 t)
def sflds (r s w : Addr) (n : Int) : List (Str × V) := putF "_length" (.int n) (putF "_outages" (.ref w) (putF "_starts" (.ref s) (putF "_rule" (.ref r) [])))
theorem sk1 : ¬ (("_rule" : Str) = "_starts") := by decide +kernel
theorem sk2 : ¬ (("_rule" : Str) = "_outages") := by decide +kernel
theorem sk3 : ¬ (("_rule" : Str) = "_length") := by decide +kernel
theorem sk4 : ¬ (("_starts" : Str) = "_outages") := by decide +kernel
theorem sk5 : ¬ (("_starts" : Str) = "_length") := by decide +kernel
theorem sk6 : ¬ (("_outages" : Str) = "_length") := by decide +kernel
theorem sflds_r (r s w : Addr) (n : Int) : (sflds r s w n).lookup ("_rule" : Str) = some (.ref r) := by
  unfold sflds
  rw [lookup_putF, if_neg sk3, lookup_putF, if_neg sk2, lookup_putF, if_neg sk1, lookup_putF, if_pos rfl]
theorem sflds_s (r s w : Addr) (n : Int) : (sflds r s w n).lookup ("_starts" : Str) = some (.ref s) := by
  unfold sflds
  rw [lookup_putF, if_neg sk5, lookup_putF, if_neg sk4, lookup_putF, if_pos rfl]
theorem sflds_w (r s w : Addr) (n : Int) : (sflds r s w n).lookup ("_outages" : Str) = some (.ref w) := by
  unfold sflds
  rw [lookup_putF, if_neg sk6, lookup_putF, if_pos rfl]
theorem sflds_n (r s w : Addr) (n : Int) : (sflds r s w n).lookup ("_length" : Str) = some (.int n) := by
  unfold sflds
  rw [lookup_putF, if_pos rfl]
theorem sflds_no (r s w : Addr) (n : Int) {m : Str} (h1 : ¬ m = "_length") (h2 : ¬ m = "_outages") (h3 : ¬ m = "_starts") (h4 : ¬ m = "_rule") : (sflds r s w n).lookup m = none := by
  unfold sflds
  rw [lookup_putF, if_neg h1, lookup_putF, if_neg h2, lookup_putF, if_neg h3, lookup_putF, if_neg h4]
  rfl
/-- starts, windows and a length that are accepted -/
structure SceneOk (bs : List Int) (ws : List (Int × Int)) (n : Int) : Prop where
  b1 : 1 ≤ bs.length
  b40 : bs.length ≤ 40
  wo : WinOk ws
  w10 : ws.length ≤ 10
  n1 : 1 ≤ n
/-- a scene stands at p, all of it apart from a -/
structure SceneAt (C CS a : Addr) (H : Hp) (p r g t o s w : Addr) (gs : List Int) (tl : Tl) (bs : List Int) (rs : List V) (ws : List (Int × Int)) (n : Int) : Prop where
  ob : ∃ dx, H p = some (.ins CS dx (sflds r s w n))
  R : RuleAt C H r g t o gs tl
  hs : H s = some (.lst (bs.map V.int))
  hw : H w = some (.lst rs)
  tp : Tups a H rs ws
  ok : SceneOk bs ws n
  na : p ≠ a ∧ r ≠ a ∧ g ≠ a ∧ t ≠ a ∧ o ≠ a ∧ s ≠ a ∧ w ≠ a
theorem RuleAt.kx {C a : Addr} {H H' : Hp} {p g t o : Addr} {gs : List Int} {tl : Tl} (R : RuleAt C H p g t o gs tl) (h : Kx a H H') (np : p ≠ a) (ng : g ≠ a) (nt : t ≠ a) (no : o ≠ a) : RuleAt C H' p g t o gs tl :=
  ⟨let ⟨dx, e⟩ := R.ob; ⟨dx, h _ _ np e⟩, h _ _ ng R.hg, h _ _ nt R.ht, h _ _ no R.ho, R.okG, R.okT⟩
theorem SceneAt.kx {C CS a : Addr} {H H' : Hp} {p r g t o s w : Addr} {gs : List Int} {tl : Tl} {bs : List Int} {rs : List V} {ws : List (Int × Int)} {n : Int} (S : SceneAt C CS a H p r g t o s w gs tl bs rs ws n) (k : Kx a H H') : SceneAt C CS a H' p r g t o s w gs tl bs rs ws n := by
  obtain ⟨n1, n2, n3, n4, n5, n6, n7⟩ := S.na
  exact ⟨let ⟨dx, e⟩ := S.ob; ⟨dx, k _ _ n1 e⟩, S.R.kx k n2 n3 n4 n5, k _ _ n6 S.hs, k _ _ n7 S.hw, S.tp.kx k, S.ok, S.na⟩
theorem Tups.ok {a : Addr} {H : Hp} {rs : List V} {ws : List (Int × Int)} (t : Tups a H rs ws) (o : WinOk ws) {i : Nat} {x : V} (hx : rs[i]? = some x) : ∃ r f e, x = .ref r ∧ ws[i]? = some (f, e) ∧ r ≠ a ∧ H r = some (.tup [.int f, .int e]) ∧ f < e := by
  obtain ⟨r, f, e, h1, h2, h3, h4⟩ := t.at hx
  exact ⟨r, f, e, h1, h2, h3, h4, o.1 _ (List.mem_of_getElem? h2)⟩
section
variable {P : Program} {w : World} {K : PySem.W.Frag} {mg : Str → Option Value} {base : Heap}
def spChO : Sp := fun vs H Q _ => ∃ (a w : Addr) (rs : List V) (ws : List (Int × Int)), vs = [.ref w] ∧ H w = some (.lst rs) ∧ Tups a H rs ws ∧ WinOk ws ∧ ws.length ≤ 10 ∧ ∀ H', Same H H' → Q .non H'
theorem scChO : FnScope ["value", "at", "outage"] ["value"] (defScope s_check_outages) := ⟨rfl, rfl, rfl, by decide +kernel, rfl, by decide +kernel, by decide +kernel⟩
theorem ok_chO {f C CS fO : Addr} {fd fdO : FuncData} (F : Fun K "_check_outages" "_check_outages" s_check_outages f fd) (T : Txt K mg C) (TS : TxtS K mg CS)
    (GO : FnOk P w K mg base CX0 3 fO fdO ["value"] spIsO) (bO : Binds K fdO ["value"] []) (mO : mg "are_slots" = some (.ref fO)) (kO : PySem.W.keepIn K (.ref fO) = true) : FnOk P w K mg base CX0 4 f fd ["value"] spChO := by
  obtain ⟨t1, m1⟩ := TS.mO
  refine F.ok scChO (fun vs H Q E h => ?_) (fun cdv A outer s H vs Q E hr h => ?_)
  · obtain ⟨a, w, rs, ws, rfl, _⟩ := h
    rfl
  · obtain ⟨a, wl, rs, ws, rfl, hw, tp, wo, w10, k⟩ := h
    have hrl := tp.len
    refine ⟨_, (pss_cons (ps_if (PW.pt (pw_or (pt_not (pt_val (pe_callB call_isi (by rfl) T.isi (by decide +kernel) (pa_cons (pv 0) (pa_cons (pe_bltn (v := .ty "list") (by rfl) T.list (by decide +kernel) rfl) pa_nil))))) (pw_or1 (pt_cmpR op_gt (pe_callB call_len_seq (by rfl) T.len (by decide +kernel) (pa_cons (pv 0) pa_nil)) (pe_glob (v := .int 10) rfl m1 ⟨_, rfl⟩) (nomark _))))) (pss_one ps_never) pss_nil) (pss_one (ps_for PassesOwn.never rfl (pi_enum (by rfl) TS.enum (pa_cons (pv 0) pa_nil)) (pg_tup rfl (pgs_cons (pg_name (i := 1) scChO.nd rfl (Or.inl rfl)) (pgs_cons (pg_name (i := 2) scChO.nd rfl (Or.inl rfl)) pgs_nil)))
        (pss_one (ps_if (PW.pt (pw_or (pt_not (pt_val (pe_call GO hr rfl mO kO bO .nil pass0 (pa_cons (pv 2) pa_nil)))) (pw_or1 (PW.pt (pw_and (pt_cmpR op_gt (pv 1) pe_int (nomark _)) (pw_and1 (pt_cmpR op_lt (pe_ix ix_tup (pv 2) pe_int (fun _ _ => rfl)) (pe_ix ix_tup (pe_ix ix_list (pv 0) (pe_op op_sub (pv 1) pe_int) (fun _ _ => rfl)) pe_int (fun _ _ => rfl)) (nomark _)))))))) (pss_one ps_never) pss_nil))))), ?_⟩
    refine ⟨_, rfl, _, _, _, _, _, rfl, .ty _, .base (.lst hw), kit_ty (r := true) (by decide +kernel), true, rfl, iteF ?_⟩
    refine ⟨_, rfl, wl, _, rfl, .inl (SqL.of hw), _, _, rfl, rfl, _, rfl, iteFb (decide_eq_false (by omega)) ?_⟩
    refine ⟨_, rfl, wl, _, rfl, SqL.of hw, for_it (walk_enum (a := wl) (xs := rs)) (fun i σ H' => (∃ v1 v2, σ = [some (.ref wl), v1, v2]) ∧ Same H H') ⟨⟨_, _, rfl⟩, Same.refl H⟩ (fun i σ H' _ p => SqL.of (p.2 _ _ hw)) ?_ ?_⟩
    · rintro i x σ H1 H2 hi ⟨⟨v1, v2, rfl⟩, S⟩ ⟨T2, x1, y1, rfl, hT, rfl, hx1, hy1⟩
      obtain rfl := Option.some.inj hx1
      obtain ⟨r, f, e, rfl, hwi, nr, hrr, hfe⟩ := tp.ok wo hy1
      have sT := same_new (o := .tup [V.int (i : Nat), .ref r]) hT
      have S2 := S.trans sT
      have hr2 := S2 _ _ hrr
      refine ⟨T2, _, rfl, SqT.of upd_same, rfl, _, _, rfl, _, _, rfl, rfl, ?_⟩
      refine ⟨_, rfl, r, f, e, rfl, hr2, hfe, true, rfl, iteF ?_⟩
      refine ⟨_, rfl, _, _, rfl, rfl, _, rfl, ?_⟩
      by_cases hi0 : 0 < i
      · refine iteTb (decide_eq_true (by omega)) ?_
        obtain ⟨x0, hx0⟩ : ∃ x0, rs[i - 1]? = some x0 := ⟨_, List.getElem?_eq_getElem (by omega)⟩
        obtain ⟨r0, f0, e0, rfl, hw0, _, hr0, _⟩ := tp.ok wo hx0
        have hle : e0 ≤ f := wo.2 (i - 1) _ _ hw0 (by rw [show i - 1 + 1 = i by omega]; exact hwi)
        refine ⟨_, rfl, r, _, _, _, rfl, rfl, SqT.of hr2, atI_nat (j := 0) rfl, _, rfl, _, rfl, _, _, rfl, rfl, wl, _, _, .ref r0, rfl, rfl, SqL.of (S2 _ _ hw), ?_, r0, _, _, _, rfl, rfl, SqT.of (S2 _ _ hr0), atI_nat (j := 1) rfl, _, _, rfl, rfl, _, rfl, iteFb (decide_eq_false (by omega)) ⟨⟨_, _, rfl⟩, S2⟩⟩
        rw [show ((i : Nat) : Int) - 1 = ((i - 1 : Nat) : Int) by omega]
        exact atI_nat hx0
      · refine iteFb (decide_eq_false (by omega)) ?_
        exact iteF ⟨⟨_, _, rfl⟩, S2⟩
    · rintro σ H1 ⟨_, S⟩
      exact k H1 S
end
end RS
namespace RS
open PySem L2
section
variable {P : Program} {w : World} {K : PySem.W.Frag} {mg : Str → Option Value} {base : Heap}
/-! ### Scene.__init__: what is accepted -/
def spSInit (C CS : Addr) : Sp := fun vs H Q _ => ∃ (a p dx r g t o s w : Addr) (gs : List Int) (tl : Tl) (bs : List Int) (rs : List V) (ws : List (Int × Int)) (n : Int), vs = [.ref p, .ref r, .ref s, .ref w, .int n] ∧ H p = some (.ins CS dx []) ∧ RuleAt C H r g t o gs tl ∧ H s = some (.lst (bs.map V.int)) ∧ H w = some (.lst rs) ∧ Tups a H rs ws ∧ SceneOk bs ws n ∧
  (∃ u, H a = some u) ∧ p ≠ a ∧ r ≠ a ∧ g ≠ a ∧ t ≠ a ∧ o ≠ a ∧
  ∀ (s' w' : Addr) (rs' : List V) (H' : Hp), (∀ b u, H b = some u → b ≠ p → H' b = some u) → SceneAt C CS a H' p r g t o s' w' gs tl bs rs' ws n → Q .non H'
theorem scSInit : FnScope ["self", "rule", "starts", "outages", "length", "first", "after"] ["self", "rule", "starts", "outages", "length"] (defScope s_Scene_ddinitdd) := ⟨rfl, rfl, rfl, by decide +kernel, rfl, by decide +kernel, by decide +kernel⟩
theorem ok_sinit {f C CS fI fS fO : Addr} {fd fdI fdS fdO : FuncData} (F : Fun K "__init__" "Scene.__init__" s_Scene_ddinitdd f fd) (T : Txt K mg C) (TS : TxtS K mg CS) (c : C8.InsC K C)
    (GI : FnOk P w K mg base CX0 1 fI fdI ["value"] spIsInt) (bI : Binds K fdI ["value"] []) (mI : mg "is_integer" = some (.ref fI)) (kI : PySem.W.keepIn K (.ref fI) = true)
    (GS : FnOk P w K mg base CX0 2 fS fdS ["value", "fewest"] spChS) (bS : Binds K fdS ["value", "fewest"] []) (mS : mg "check_starts" = some (.ref fS)) (kS : PySem.W.keepIn K (.ref fS) = true)
    (GO : FnOk P w K mg base CX0 4 fO fdO ["value"] spChO) (bO : Binds K fdO ["value"] []) (mO : mg "_check_outages" = some (.ref fO)) (kO : PySem.W.keepIn K (.ref fO) = true) :
    FnOk P w K mg base CX0 5 f fd ["self", "rule", "starts", "outages", "length"] (spSInit C CS) := by
  refine F.ok scSInit (fun vs H Q E h => ?_) (fun cdv A outer s H vs Q E hr h => ?_)
  · obtain ⟨a, p, dx, r, g, t, o, s, w, gs, tl, bs, rs, ws, n, rfl, _⟩ := h
    rfl
  · obtain ⟨a, p, dx, r, g, t, o, sl, wl, gs, tl, bs, rs, ws, n, rfl, hp, R, hs, hw, tp, ok, ⟨ua, hua⟩, np, nr, ng, nt, no, k⟩ := h
    have hr1 := hr.mono (show 1 ≤ 4 by decide)
    have hr2 := hr.mono (show 2 ≤ 4 by decide)
    refine ⟨_, (pss_cons (ps_if (pt_not (pt_val (pe_callB (C8.call_isC c) (by rfl) T.isi (by decide +kernel) (pa_cons (pv 1) (pa_cons (pe_glob (v := .ref C) rfl T.mgC rfl) pa_nil))))) (pss_one ps_never) pss_nil) (pss_cons (ps_expr (pe_call GS hr2 rfl mS kS bS .nil pass0 (pa_cons (pv 2) (pa_cons pe_int pa_nil)))) (Evl.pss_cut (ps_if (pt_cmpR op_notN (pv 3) pe_non (nomark _)) (pss_one (ps_expr (pe_call GO hr rfl mO kO bO .nil pass0 (pa_cons (pv 3) pa_nil)))) pss_nil) (pss_cons (ps_if (PW.pt (pw_or (pt_not (pt_val (pe_call GI hr1 rfl mI kI bI .nil pass0 (pa_cons (pv 4) pa_nil)))) (pw_or1 (pt_cmpR op_lt (pv 4) pe_int (nomark _))))) (pss_one ps_never) pss_nil) (pss_cons (ps_fld (pv 0) (pv 1) rfl) (pss_cons (ps_fld (pv 0) (pe_callTy call_list_of (by rfl) T.list (by decide +kernel) (pa_cons (pv 2) pa_nil)) rfl) (pss_cons (ps_fld (pv 0) (pe_lc (own := [("first", 5), ("after", 6)]) (g := gTup K 2 (gCons (gName 5) (gCons (gName 6) gNil))) (tt := tYes) rfl scSInit.nd (pi_list (pe_callTy call_list_of (by rfl) T.list (by decide +kernel) (pa_cons (pe_orT (pv 3) (pe_one (pe_lst pa_nil))) pa_nil))) (blkOk_by (own := [("first", 5), ("after", 6)]) (N := ["self", "rule", "starts", "outages", "length", "first", "after"]) (sc := defScope s_Scene_ddinitdd) (by decide +kernel))
        (fun _ _ _ _ _ => pg_tup rfl (pgs_cons (pg_name (i := 5) scSInit.nd rfl (Or.inl rfl)) (pgs_cons (pg_name (i := 6) scSInit.nd rfl (Or.inl rfl)) pgs_nil))) (fun _ _ _ _ _ => pts_nil) (fun _ _ _ _ _ => (pe_tup (pa_cons (pv 5) (pa_cons (pv 6) pa_nil))))) rfl) (pss_one (ps_fld (pv 0) (pv 4) rfl))))))))), ?_⟩
    obtain ⟨dxr, hobr⟩ := R.ob
    refine ⟨_, rfl, r, dxr, _, rfl, hobr, true, rfl, iteF ?_⟩
    refine ⟨_, rfl, sl, bs, 1, rfl, hs, ok.b1, ok.b40, fun H1 S1 => ?_⟩
    refine ⟨fun σ' H' => σ' = [some (.ref p), some (.ref r), some (.ref sl), some (.ref wl), some (.int n), none, none] ∧ Same H H', ?_, ?_⟩
    · refine ⟨_, rfl, rfl, _, rfl, iteTb (by rw [decide_eq_false (fun e => by cases e)]; rfl) ?_⟩
      exact ⟨_, rfl, a, wl, rs, ws, rfl, S1 _ _ hw, tp.kx (Kx.of S1), ok.wo, ok.w10, fun H2 S2 => ⟨rfl, S1.trans S2⟩⟩
    rintro _ H2 ⟨rfl, S2⟩
    refine ⟨_, rfl, n, rfl, true, rfl, iteF ⟨_, rfl, _, _, rfl, rfl, _, rfl, iteFb (decide_eq_false (by have := ok.n1; omega)) ?_⟩⟩
    -- _rule
    refine ⟨_, rfl, _, rfl, p, CS, dx, [], rfl, S2 _ _ hp, TS.cl, TS.nR, (by show 0 < 1000; decide), ?_⟩
    have npr : ∀ {b : Addr} {u : HO}, H b = some u → (∀ dx fs, u ≠ .ins CS dx fs) → b ≠ p := fun {b u} hb hu e => by subst e; rw [hp] at hb; exact hu _ _ (Option.some.inj hb).symm
    have nsp : sl ≠ p := npr hs (fun _ _ z => by cases z)
    have nwp : wl ≠ p := npr hw (fun _ _ z => by cases z)
    -- _starts
    refine ⟨_, rfl, sl, _, rfl, .inl (SqL.of (by rw [upd_ne nsp]; exact S2 _ _ hs)), fun s' hs' => ?_⟩
    have ns'p : s' ≠ p := fun e => by subst e; rw [upd_same] at hs'; cases hs'
    refine ⟨_, rfl, p, CS, dx, _, rfl, (by rw [upd_ne ns'p.symm]; exact upd_same), TS.cl, TS.nS, (by show 1 < 1000; decide), ?_⟩
    generalize hH3 : upd (upd (upd H2 p (.ins CS dx (putF "_rule" (.ref r) []))) s' (.lst (bs.map V.int))) p (.ins CS dx (putF "_starts" (.ref s') (putF "_rule" (.ref r) []))) = H3
    have hs'H : H2 s' = none := by rw [upd_ne ns'p] at hs'; exact hs'
    have e3p : H3 p = some (.ins CS dx (putF "_starts" (.ref s') (putF "_rule" (.ref r) []))) := by rw [← hH3]; exact upd_same
    have e3s : H3 s' = some (.lst (bs.map V.int)) := by rw [← hH3, upd_ne ns'p]; exact upd_same
    have S3 : ∀ b u, H2 b = some u → b ≠ p → H3 b = some u := fun b u e nb => by
      rw [← hH3, upd_ne nb, upd_ne (ne_of_none e hs'H), upd_ne nb]
      exact e
    -- _outages
    have hw3 := S3 _ _ (S2 _ _ hw) nwp
    have tp3 : Tups a H3 rs ws := (tp.kx (Kx.of S2)).imp fun b f e hb => S3 _ _ hb (fun e => by
      subst e
      have := (S2 _ _ hp).symm.trans hb
      cases this)
    have wo := ok.wo
    have ha2 : H2 a = some ua := S2 _ _ hua
    have ns'a : s' ≠ a := (ne_of_none ha2 hs'H).symm
    have ha3 : H3 a = some ua := S3 _ _ ha2 np.symm
    have nrp : r ≠ p := fun e => by
      subst e
      have h1 := hobr.symm.trans hp
      have h2 : flds g t o = [] := by injection (Option.some.inj h1)
      have h3 := flds_g g t o
      rw [h2] at h3
      cases h3
    cases hrs : rs.isEmpty with
    | false =>
      refine ⟨_, rfl, true, .inl ⟨rs, SqL.of hw3, by rw [hrs]; rfl⟩, iteT ?_⟩
      refine ⟨wl, _, rfl, .inl (SqL.of hw3), fun l hl => ?_⟩
      have S5 := same_new (o := .lst rs) hl
      have hl5 := upd_same (H := H3) (a := l) (o := .lst rs)
      generalize (upd H3 l (.lst rs)) = H5 at S5 hl5 ⊢
      have ha5 := S5 _ _ ha3
      have tp5 := tp3.kx (Kx.of S5)
      refine ⟨l, rfl, ⟨_, SqL.of hl5⟩, fun D hD => lc_list (a := l) (xs := rs) (fun i H' => Same H5 H' ∧ ∃ ds, H' D = some (.lst ds) ∧ ds.length ≤ i ∧ Tups a H' ds (ws.take i)) ⟨same_new hD, [], upd_same, Nat.le_refl _, .nil⟩ (fun i H' _ p => SqL.of (p.1 _ _ hl5)) (fun i x H' hx pv => ?_) (fun H6 pv => ?_)⟩
      · obtain ⟨S, ds, hds, hdl, tpd⟩ := pv
        obtain ⟨q, ff, ee, rfl, hwi, nq, hq⟩ := tp5.at hx
        have hi : i < rs.length := (List.getElem?_eq_some_iff.mp hx).1
        refine ⟨q, _, rfl, SqT.of (S _ _ hq), rfl, _, _, rfl, _, _, rfl, rfl, rfl, ?_⟩
        refine yes_t (iteT ?_)
        refine ⟨_, rfl, _, rfl, (by show 2 ≤ sizeLine; decide), fun z hz => ?_⟩
        have sz := same_new (o := .tup [V.int ff, .int ee]) hz
        have nza : z ≠ a := (ne_of_none (S _ _ ha5) hz).symm
        have nzD : D ≠ z := ne_of_none hds hz
        have := tp.len
        have := ok.w10
        refine ⟨ds, sz _ _ hds, small1000 (by omega), fun b u e => ?_, ds ++ [.ref z], upd_same, ?_, ?_⟩
        · rw [upd_ne (ne_of_none e hD)]
          exact sz _ _ (S b u e)
        · rw [List.length_append]
          show ds.length + 1 ≤ _
          omega
        · rw [List.take_add_one, hwi]
          refine Tups.snoc nza ?_ ((tpd.kx (Kx.of sz)).off (sz _ _ hds))
          rw [upd_ne nzD.symm]
          exact upd_same
      obtain ⟨S6, ds, hds, hdl, tpd⟩ := pv
      rw [tp.len, List.take_length] at tpd
      have S36 : Same H3 H6 := S5.trans S6
      refine ⟨_, rfl, p, CS, dx, _, rfl, S36 _ _ e3p, TS.cl, TS.nW, (by show 2 < 1000; decide), ?_⟩
      refine ⟨_, rfl, _, rfl, p, CS, dx, _, rfl, upd_same, TS.cl, TS.nN, (by show 3 < 1000; decide), ?_⟩
      have hH : ∀ b u, H6 b = some u → b ≠ p → (upd (upd H6 p (.ins CS dx (putF "_outages" (.ref D) (putF "_starts" (.ref s') (putF "_rule" (.ref r) []))))) p (.ins CS dx (putF "_length" (.int n) (putF "_outages" (.ref D) (putF "_starts" (.ref s') (putF "_rule" (.ref r) [])))))) b = some u := fun b u e nb => by
        rw [upd_ne nb, upd_ne nb]
        exact e
      have fr : ∀ b u, H b = some u → b ≠ p → _ := fun b u e nb => hH b u (S36 _ _ (S3 _ _ (S2 _ _ e) nb)) nb
      have nDp : D ≠ p := (ne_of_none (S5 _ _ e3p) hD).symm
      have nDa : D ≠ a := (ne_of_none ha5 hD).symm
      refine k s' D ds _ fr ⟨⟨dx, upd_same⟩, ⟨⟨dxr, fr _ _ hobr nrp⟩, fr _ _ R.hg (npr R.hg (fun _ _ z => by cases z)), fr _ _ R.ht (npr R.ht (fun _ _ z => by cases z)), fr _ _ R.ho (npr R.ho (fun _ _ z => by cases z)), R.okG, R.okT⟩, hH _ _ (S36 _ _ e3s) ns'p, hH _ _ hds nDp, ?_, ok, np, nr, ng, nt, no, ns'a, nDa⟩
      exact tpd.imp fun b f e hb => hH _ _ hb (fun z => by
        subst z
        have := (S36 _ _ e3p).symm.trans hb
        cases this)
    | true =>
      refine ⟨_, rfl, false, .inl ⟨rs, SqL.of hw3, by rw [hrs]; rfl⟩, iteF ?_⟩
      obtain rfl : rs = [] := List.isEmpty_iff.mp hrs
      refine ⟨(by show 0 ≤ sizeLine; decide), fun e0 he0 => ⟨e0, _, rfl, .inl (SqL.of upd_same), fun l hl => ?_⟩⟩
      have S5 := (same_new (o := .lst []) he0).trans (same_new (o := .lst []) hl)
      have hl5 := upd_same (H := upd H3 e0 (.lst [])) (a := l) (o := .lst [])
      generalize (upd (upd H3 e0 (.lst [])) l (.lst [])) = H5 at S5 hl5 ⊢
      have ha5 := S5 _ _ ha3
      have tp5 := tp3.kx (Kx.of S5)
      refine ⟨l, rfl, ⟨_, SqL.of hl5⟩, fun D hD => lc_list (a := l) (xs := ([] : List V)) (fun i H' => Same H5 H' ∧ ∃ ds, H' D = some (.lst ds) ∧ ds.length ≤ i ∧ Tups a H' ds (ws.take i)) ⟨same_new hD, [], upd_same, Nat.le_refl _, .nil⟩ (fun i H' _ p => SqL.of (p.1 _ _ hl5)) (fun i x H' hx pv => ?_) (fun H6 pv => ?_)⟩
      · obtain ⟨S, ds, hds, hdl, tpd⟩ := pv
        obtain ⟨q, ff, ee, rfl, hwi, nq, hq⟩ := tp5.at hx
        have hi : i < ([] : List V).length := (List.getElem?_eq_some_iff.mp hx).1
        refine ⟨q, _, rfl, SqT.of (S _ _ hq), rfl, _, _, rfl, _, _, rfl, rfl, rfl, ?_⟩
        refine yes_t (iteT ?_)
        refine ⟨_, rfl, _, rfl, (by show 2 ≤ sizeLine; decide), fun z hz => ?_⟩
        have sz := same_new (o := .tup [V.int ff, .int ee]) hz
        have nza : z ≠ a := (ne_of_none (S _ _ ha5) hz).symm
        have nzD : D ≠ z := ne_of_none hds hz
        have := tp.len
        have := ok.w10
        refine ⟨ds, sz _ _ hds, small1000 (by omega), fun b u e => ?_, ds ++ [.ref z], upd_same, ?_, ?_⟩
        · rw [upd_ne (ne_of_none e hD)]
          exact sz _ _ (S b u e)
        · rw [List.length_append]
          show ds.length + 1 ≤ _
          omega
        · rw [List.take_add_one, hwi]
          refine Tups.snoc nza ?_ ((tpd.kx (Kx.of sz)).off (sz _ _ hds))
          rw [upd_ne nzD.symm]
          exact upd_same
      obtain ⟨S6, ds, hds, hdl, tpd⟩ := pv
      rw [tp.len, List.take_length] at tpd
      have S36 : Same H3 H6 := S5.trans S6
      refine ⟨_, rfl, p, CS, dx, _, rfl, S36 _ _ e3p, TS.cl, TS.nW, (by show 2 < 1000; decide), ?_⟩
      refine ⟨_, rfl, _, rfl, p, CS, dx, _, rfl, upd_same, TS.cl, TS.nN, (by show 3 < 1000; decide), ?_⟩
      have hH : ∀ b u, H6 b = some u → b ≠ p → (upd (upd H6 p (.ins CS dx (putF "_outages" (.ref D) (putF "_starts" (.ref s') (putF "_rule" (.ref r) []))))) p (.ins CS dx (putF "_length" (.int n) (putF "_outages" (.ref D) (putF "_starts" (.ref s') (putF "_rule" (.ref r) [])))))) b = some u := fun b u e nb => by
        rw [upd_ne nb, upd_ne nb]
        exact e
      have fr : ∀ b u, H b = some u → b ≠ p → _ := fun b u e nb => hH b u (S36 _ _ (S3 _ _ (S2 _ _ e) nb)) nb
      have nDp : D ≠ p := (ne_of_none (S5 _ _ e3p) hD).symm
      have nDa : D ≠ a := (ne_of_none ha5 hD).symm
      refine k s' D ds _ fr ⟨⟨dx, upd_same⟩, ⟨⟨dxr, fr _ _ hobr nrp⟩, fr _ _ R.hg (npr R.hg (fun _ _ z => by cases z)), fr _ _ R.ht (npr R.ht (fun _ _ z => by cases z)), fr _ _ R.ho (npr R.ho (fun _ _ z => by cases z)), R.okG, R.okT⟩, hH _ _ (S36 _ _ e3s) ns'p, hH _ _ hds nDp, ?_, ok, np, nr, ng, nt, no, ns'a, nDa⟩
      exact tpd.imp fun b f e hb => hH _ _ hb (fun z => by
        subst z
        have := (S36 _ _ e3p).symm.trans hb
        cases this)
end
end RS
namespace RS
open PySem L2
def nV (n : Nat) : V := .int (n : Int)
end RS
namespace RS
open PySem L2
/-! ### a dict of lists of clients, by whole numbers -/
def kvsOf (ks : List Int) (as : List Addr) : List (Key × V) := List.zipWith (fun r a => ((Sum.inl r : Key), V.ref a)) ks as
theorem kvsOf_len {ks : List Int} {as : List Addr} (h : as.length = ks.length) : (kvsOf ks as).length = ks.length := by
  unfold kvsOf
  rw [List.length_zipWith, h, Nat.min_self]
theorem kvsOf_keys : ∀ {ks : List Int} {as : List Addr}, as.length = ks.length → (kvsOf ks as).map (fun kv => kV kv.1) = ks.map V.int
  | [], [], _ => rfl
  | [], _ :: _, h => nomatch h
  | _ :: _, [], h => nomatch h
  | r :: ks, a :: as, h => by
    have ih := kvsOf_keys (ks := ks) (as := as) (Nat.succ.inj h)
    show kV (Sum.inl r) :: (kvsOf ks as).map (fun kv => kV kv.1) = _
    rw [ih]
    rfl
theorem kvsOf_at : ∀ {ks : List Int} {as : List Addr} {j : Nat} {r : Int} {a : Addr}, ks.Nodup → ks[j]? = some r → as[j]? = some a → valV (kvsOf ks as) (Sum.inl r) = some (.ref a)
  | [], _, _, _, _, _, h, _ => nomatch h
  | _ :: _, [], _, _, _, _, _, h => nomatch h
  | q :: ks, b :: as, 0, r, a, _, h1, h2 => by
    cases h1
    cases h2
    exact valV_pos (p := ((Sum.inl q : Key), V.ref b)) rfl
  | q :: ks, b :: as, j + 1, r, a, hn, h1, h2 => by
    have h1 : ks[j]? = some r := h1
    have hq : q ≠ r := fun e => (List.nodup_cons.mp hn).1 (e ▸ List.mem_of_getElem? h1)
    have ih := kvsOf_at (List.nodup_cons.mp hn).2 h1 h2
    show valV (((Sum.inl q : Key), V.ref b) :: kvsOf ks as) (Sum.inl r) = _
    unfold valV at ih ⊢
    rw [List.find?_cons, decide_eq_false (fun e => hq (Sum.inl.inj e))]
    exact ih
theorem kvsOf_none : ∀ {ks : List Int} {as : List Addr} {r : Int}, r ∉ ks → valV (kvsOf ks as) (Sum.inl r) = none
  | [], _, _, _ => rfl
  | _ :: _, [], _, _ => rfl
  | q :: ks, b :: as, r, h => by
    have ih := kvsOf_none (ks := ks) (as := as) (r := r) fun z => h (List.mem_cons_of_mem _ z)
    show valV (((Sum.inl q : Key), V.ref b) :: kvsOf ks as) (Sum.inl r) = _
    unfold valV at ih ⊢
    rw [List.find?_cons, decide_eq_false (fun e => h ((Sum.inl.inj e : q = r) ▸ List.mem_cons_self ..))]
    exact ih
theorem kvsOf_put {ks : List Int} {as : List Addr} {r : Int} {a : Addr} (hl : as.length = ks.length) (h : r ∉ ks) : putK (kvsOf ks as) (Sum.inl r) (.ref a) = kvsOf (ks ++ [r]) (as ++ [a]) := by
  unfold putK
  rw [valV_any, kvsOf_none h, if_neg (by decide)]
  unfold kvsOf
  rw [List.zipWith_append hl.symm]
  rfl
theorem nodup_at {α : Type} : ∀ {l : List α} {i j : Nat} {x : α}, l.Nodup → l[i]? = some x → l[j]? = some x → i = j
  | [], _, _, _, _, h, _ => nomatch h
  | _ :: _, 0, 0, _, _, _, _ => rfl
  | a :: l, 0, j + 1, x, hn, h1, h2 => by
    cases h1
    exact absurd (List.mem_of_getElem? (show l[j]? = some a from h2)) (List.nodup_cons.mp hn).1
  | a :: l, i + 1, 0, x, hn, h1, h2 => by
    cases h2
    exact absurd (List.mem_of_getElem? (show l[i]? = some a from h1)) (List.nodup_cons.mp hn).1
  | a :: l, i + 1, j + 1, x, hn, h1, h2 => by
    rw [nodup_at (l := l) (List.nodup_cons.mp hn).2 h1 h2]
theorem nodup_one {α : Type} (a : α) : [a].Nodup := List.nodup_cons.mpr ⟨(fun h => nomatch h), List.Pairwise.nil⟩
structure DictF (H : Hp) (d : Addr) (ks : List Int) (as : List Addr) (f : Int → List Nat) : Prop where
  hd : H d = some (.dK (kvsOf ks as))
  nk : ks.Nodup
  na : as.Nodup
  len : as.length = ks.length
  ls : ∀ (j : Nat) (r : Int) (a : Addr), ks[j]? = some r → as[j]? = some a → H a = some (.lst ((f r).map nV))
  out : ∀ r, r ∉ ks → f r = []
theorem DictF.keep {H H' : Hp} {d : Addr} {ks : List Int} {as : List Addr} {f : Int → List Nat} (D : DictF H d ks as f) (h1 : H' d = H d) (h2 : ∀ a ∈ as, H' a = H a) : DictF H' d ks as f :=
  ⟨h1.trans D.hd, D.nk, D.na, D.len, fun j r a e1 e2 => (h2 a (List.mem_of_getElem? e2)).trans (D.ls j r a e1 e2), D.out⟩
theorem DictF.some_ {H : Hp} {d : Addr} {ks : List Int} {as : List Addr} {f : Int → List Nat} (D : DictF H d ks as f) {a : Addr} (h : a ∈ as) : ∃ r, H a = some (.lst ((f r).map nV)) := by
  obtain ⟨j, hj, e⟩ := List.mem_iff_getElem.mp h
  have hk : j < ks.length := by rw [← D.len]; exact hj
  exact ⟨ks[j], D.ls j _ a (List.getElem?_eq_getElem hk) (e ▸ List.getElem?_eq_getElem hj)⟩
theorem DictF.same {H H' : Hp} {d : Addr} {ks : List Int} {as : List Addr} {f : Int → List Nat} (D : DictF H d ks as f) (S : Same H H') : DictF H' d ks as f :=
  D.keep ((S _ _ D.hd).trans D.hd.symm) fun a ha => let ⟨_, e⟩ := D.some_ ha; (S _ _ e).trans e.symm
theorem DictF.nd {H : Hp} {d : Addr} {ks : List Int} {as : List Addr} {f : Int → List Nat} (D : DictF H d ks as f) : d ∉ as := fun h => by
  obtain ⟨r, e⟩ := D.some_ h
  rw [D.hd] at e
  cases e
/-- where the list of a number stands -/
theorem DictF.at_ {H : Hp} {d : Addr} {ks : List Int} {as : List Addr} {f : Int → List Nat} (D : DictF H d ks as f) {r : Int} (h : r ∈ ks) : ∃ (j : Nat) (a : Addr), ks[j]? = some r ∧ as[j]? = some a ∧ H a = some (.lst ((f r).map nV)) ∧ valV (kvsOf ks as) (Sum.inl r) = some (.ref a) := by
  obtain ⟨j, hj, e⟩ := List.mem_iff_getElem.mp h
  have hk : ks[j]? = some r := e ▸ List.getElem?_eq_getElem hj
  have ha : as[j]? = some (as[j]'(by rw [D.len]; exact hj)) := List.getElem?_eq_getElem _
  exact ⟨j, _, hk, ha, D.ls j r _ hk ha, kvsOf_at D.nk hk ha⟩
/-- another list for a number -/
theorem DictF.set {H : Hp} {d : Addr} {ks : List Int} {as : List Addr} {f : Int → List Nat} (D : DictF H d ks as f) {j : Nat} {r : Int} {a : Addr} (h1 : ks[j]? = some r) (h2 : as[j]? = some a) (l : List Nat) : DictF (upd H a (.lst (l.map nV))) d ks as (fun x => if x = r then l else f x) := by
  have hm := List.mem_of_getElem? h2
  refine ⟨by rw [upd_ne (fun (e : d = a) => D.nd (by rw [e]; exact hm))]; exact D.hd, D.nk, D.na, D.len, fun j' r' a' e1 e2 => ?_, fun x hx => ?_⟩
  · by_cases hj : j' = j
    · subst hj
      rw [h1] at e1
      rw [h2] at e2
      cases e1
      cases e2
      rw [upd_same, if_pos rfl]
    · have hr : r' ≠ r := fun e => by
        subst e
        exact hj (nodup_at D.nk e1 h1)
      have ha : a' ≠ a := fun e => by
        subst e
        exact hj (nodup_at D.na e2 h2)
      rw [upd_ne ha, if_neg hr]
      exact D.ls j' r' a' e1 e2
  · show (if x = r then l else f x) = []
    rw [if_neg (fun (e : x = r) => hx (by rw [e]; exact List.mem_of_getElem? h1))]
    exact D.out x hx
/-- a number that is new -/
theorem DictF.add {H : Hp} {d : Addr} {ks : List Int} {as : List Addr} {f : Int → List Nat} (D : DictF H d ks as f) {r : Int} {a : Addr} (h : r ∉ ks) (ha : H a = none) : DictF (upd (upd H a (.lst [])) d (.dK (putK (kvsOf ks as) (Sum.inl r) (.ref a)))) d (ks ++ [r]) (as ++ [a]) f := by
  have nad : a ≠ d := (ne_of_none D.hd ha).symm
  have nas : a ∉ as := fun z => by
    obtain ⟨x, e⟩ := D.some_ z
    rw [ha] at e
    cases e
  refine ⟨by rw [upd_same, kvsOf_put D.len h], ?_, ?_, by rw [List.length_append, List.length_append, D.len]; rfl, fun j r' a' e1 e2 => ?_, fun x hx => D.out x fun z => hx (List.mem_append_left _ z)⟩
  · exact List.nodup_append.mpr ⟨D.nk, nodup_one r, fun x hx y hy e => h (by rw [← List.mem_singleton.mp hy, ← e]; exact hx)⟩
  · exact List.nodup_append.mpr ⟨D.na, nodup_one a, fun x hx y hy e => nas (by rw [← List.mem_singleton.mp hy, ← e]; exact hx)⟩
  · by_cases hj : j < ks.length
    · rw [List.getElem?_append_left hj] at e1
      rw [List.getElem?_append_left (by rw [D.len]; exact hj)] at e2
      have hm := List.mem_of_getElem? e2
      rw [upd_ne (fun (e : a' = d) => D.nd (by rw [← e]; exact hm)), upd_ne (fun (e : a' = a) => nas (by rw [← e]; exact hm))]
      exact D.ls j r' a' e1 e2
    · rw [List.getElem?_append_right (by omega)] at e1
      rw [List.getElem?_append_right (by rw [D.len]; omega)] at e2
      have z1 := List.getElem?_eq_some_iff.mp e1
      have z2 := List.getElem?_eq_some_iff.mp e2
      have y1 : r' = r := by
        have := List.mem_of_getElem? e1
        exact List.mem_singleton.mp this
      have y2 : a' = a := by
        have := List.mem_of_getElem? e2
        exact List.mem_singleton.mp this
      subst y1 y2
      rw [upd_ne nad, upd_same, D.out _ h]
      rfl
/-! ### the loop object -/
theorem lkn {m k : Str} {v : V} {r : List (Str × V)} (h : m ≠ k) : List.lookup m ((k, v) :: r) = List.lookup m r := by
  rw [List.lookup, beq_false_of_ne h]
theorem lke {m : Str} {v : V} {r : List (Str × V)} : List.lookup m ((m, v) :: r) = some v := by
  rw [List.lookup, beq_self_eq_true]
theorem pfn {f k : Str} {v x : V} {r : List (Str × V)} (h : ¬ k = f) : putF f v ((k, x) :: r) = (k, x) :: putF f v r := by rw [putF, if_neg h]
theorem pfe {f : Str} {v x : V} {r : List (Str × V)} : putF f v ((f, x) :: r) = (f, v) :: r := by rw [putF, if_pos rfl]
def lpf (P F : V) (o d : Addr) (L : V) (ch : Bool) : List (Str × V) := [("_period", P), ("_first", F), ("_offsets", .ref o), ("_clients", .ref d), ("_lone", L), ("_changed", .bl ch)]
section
variable (P F : V) (o d : Addr) (L : V) (ch : Bool)
theorem lpf_P : (lpf P F o d L ch).lookup ("_period" : Str) = some P := lke
theorem lpf_F : (lpf P F o d L ch).lookup ("_first" : Str) = some F := by
  unfold lpf
  rw [lkn (by decide +kernel), lke]
theorem lpf_o : (lpf P F o d L ch).lookup ("_offsets" : Str) = some (.ref o) := by
  unfold lpf
  rw [lkn (by decide +kernel), lkn (by decide +kernel), lke]
theorem lpf_d : (lpf P F o d L ch).lookup ("_clients" : Str) = some (.ref d) := by
  unfold lpf
  rw [lkn (by decide +kernel), lkn (by decide +kernel), lkn (by decide +kernel), lke]
theorem lpf_L : (lpf P F o d L ch).lookup ("_lone" : Str) = some L := by
  unfold lpf
  rw [lkn (by decide +kernel), lkn (by decide +kernel), lkn (by decide +kernel), lkn (by decide +kernel), lke]
theorem lpf_c : (lpf P F o d L ch).lookup ("_changed" : Str) = some (.bl ch) := by
  unfold lpf
  rw [lkn (by decide +kernel), lkn (by decide +kernel), lkn (by decide +kernel), lkn (by decide +kernel), lkn (by decide +kernel), lke]
theorem lpf_no {m : Str} (h1 : m ≠ "_period") (h2 : m ≠ "_first") (h3 : m ≠ "_offsets") (h4 : m ≠ "_clients") (h5 : m ≠ "_lone") (h6 : m ≠ "_changed") : (lpf P F o d L ch).lookup m = none := by
  unfold lpf
  rw [lkn h1, lkn h2, lkn h3, lkn h4, lkn h5, lkn h6]
  rfl
theorem lpf_sL (L2 : V) : putF "_lone" L2 (lpf P F o d L ch) = lpf P F o d L2 ch := by
  unfold lpf
  rw [pfn (by decide +kernel), pfn (by decide +kernel), pfn (by decide +kernel), pfn (by decide +kernel), pfe]
theorem lpf_sc (c2 : Bool) : putF "_changed" (.bl c2) (lpf P F o d L ch) = lpf P F o d L c2 := by
  unfold lpf
  rw [pfn (by decide +kernel), pfn (by decide +kernel), pfn (by decide +kernel), pfn (by decide +kernel), pfn (by decide +kernel), pfe]
end
def optV : Option Int → V
  | none => .non
  | some s => .int s
/-- the first slot from one on in which one client is alone -/
def IsLone (f : Int → List Nat) (P q : Int) : Option Int → Prop
  | none => ∀ t, q ≤ t → (f (t % P)).length ≠ 1
  | some s => q ≤ s ∧ (f (s % P)).length = 1 ∧ ∀ t, q ≤ t → t < s → (f (t % P)).length ≠ 1
structure LoopAt (C : Addr) (H : Hp) (p o d : Addr) (gs : List Int) (m : Nat) (ks : List Int) (as : List Addr) (f : Int → List Nat) (L : Option Int) (ch : Bool) : Prop where
  ob : ∃ dx, H p = some (.ins C dx (lpf (.int (per gs m)) (.int ((gs.length - m : Nat) : Int)) o d (optV L) ch))
  ho : H o = some (.lst ((repOffs gs m).map V.int))
  D : DictF H d ks as f
  no : o ∉ as
  kb : ∀ r ∈ ks, 0 ≤ r ∧ r < per gs m
  bd : ∀ r, (f r).length ≤ 1000
  okG : GapsOk gs
  h1 : 1 ≤ m
  h2 : m ≤ gs.length
theorem LoopAt.same {C : Addr} {H H' : Hp} {p o d : Addr} {gs : List Int} {m : Nat} {ks : List Int} {as : List Addr} {f : Int → List Nat} {L : Option Int} {ch : Bool} (R : LoopAt C H p o d gs m ks as f L ch) (S : Same H H') : LoopAt C H' p o d gs m ks as f L ch :=
  ⟨let ⟨dx, e⟩ := R.ob; ⟨dx, S _ _ e⟩, S _ _ R.ho, R.D.same S, R.no, R.kb, R.bd, R.okG, R.h1, R.h2⟩
theorem LoopAt.npd {C : Addr} {H : Hp} {p o d : Addr} {gs : List Int} {m : Nat} {ks : List Int} {as : List Addr} {f : Int → List Nat} {L : Option Int} {ch : Bool} (R : LoopAt C H p o d gs m ks as f L ch) : d ≠ p ∧ o ≠ p ∧ p ∉ as ∧ d ≠ o := by
  obtain ⟨dx, e⟩ := R.ob
  refine ⟨ne_of R.D.hd e (by intro z; cases z), ne_of R.ho e (by intro z; cases z), fun z => ?_, ne_of R.D.hd R.ho (by intro z; cases z)⟩
  obtain ⟨r, e2⟩ := R.D.some_ z
  rw [e] at e2
  cases e2
/-- all but the loop's own is as it was -/
def FpL (p d : Addr) (as : List Addr) (H H' : Hp) : Prop := ∀ c u, H c = some u → c ≠ p → c ≠ d → c ∉ as → H' c = some u
end RS
namespace RS
open PySem L2 PySem.Spec PyProof.Rows
/-! ### min(xs, default = v) of a list of ints: the machine's loop, with a keyword handed along -/
section
variable {prog : Program} {w : World} {A : Around} {R : Result → Shared → Prop} {I : Addr} {fp wr : List Addr} {n : Nat} {Pn : Nat → Value → Prop} {Sn : Nat → Heap → Prop} {kw : List (Str × Value)}
theorem minLoopName : (toString "min" ++ toString ".loop" : String) = "min.loop" := by decide
theorem min_turns (W : Walks prog w A.in1 I fp wr n Pn Sn) (bt : Nat → Nat → Bool) (cmp : CmpOf prog w A.in1 .Lt Pn bt) (S : Addr) (nS : S ∉ fp) : ∀ (k j : Nat) (s : Shared) (vb : Value) (c : Nat),
    n - (j + 1) = k → j + 1 ≤ n → Sn (j + 1) s.heap → Pn (argBest bt j) vb → s.heap.get? S = some { cls := .type "list", dict := none, data := .seq #[vb, vb] c, slots := #[] } →
    (∀ v h' tk, Pn (argBest bt (n - 1)) v → (∀ b o, b ∉ wr → b ≠ S → s.heap.get? b = some o → h'.get? b = some o) →
      R (.ok (.ret v)) { s with heap := h', toks := tk }) →
    codeAny (model prog w) A (.builtin "min.loop" ⟨[.ref I, .none, .ref S], kw⟩) R s := by
  have nSw : S ∉ wr := fun z => nS (W.sub _ z)
  intro k
  induction k with
  | zero =>
    intro j s vb c ek hj st pb hS hR
    obtain rfl : n = j + 1 := by omega
    refine codeAny_builtin F.entry_min_loop ?_
    rw [Around.under_plainId F.plain_min_loop _]
    show wpAny _ A.in1 (seqItems? (Value.ref S) >>= _) _ _ s
    refine wpAny_bind (wpAny_seqItems hS rfl ?_)
    show wpAny _ A.in1 (tryCatch (pyNext (Value.ref I)) _ >>= _) _ _ s
    refine wpAny_bind (wpAny_tryCatch (W.done s _ _ st ?_))
    intro h' tk hk
    have hS2 := hk S _ nSw hS
    show wpAny _ A.in1 (updateSeq S (fun _ => (#[] : Array Value)) >>= _) _ _ _
    refine wpAny_bind (wpAny_updateSeq hS2 rfl (wpAny_bind (wpAny_letGo (wpAny_pure ?_))))
    exact hR vb _ tk pb fun b o nb nbS e => (Heap.get?_update_other _ _ (Ne.symm nbS)).trans (hk b o nb e)
  | succ k ih =>
    intro j s vb c ek hj st pb hS hR
    have lt : j + 1 < n := by omega
    refine codeAny_builtin F.entry_min_loop ?_
    rw [Around.under_plainId F.plain_min_loop _]
    show wpAny _ A.in1 (seqItems? (Value.ref S) >>= _) _ _ s
    refine wpAny_bind (wpAny_seqItems hS rfl ?_)
    show wpAny _ A.in1 (tryCatch (pyNext (Value.ref I)) _ >>= _) _ _ s
    refine wpAny_bind (wpAny_tryCatch (W.item (j + 1) s _ _ lt st ?_))
    intro v h' tk pv' st' hk
    have hS2 := hk S _ nSw hS
    show wpAny _ A.in1 (tryCatch (holding [v, v] (richCompare .Lt v vb >>= _)) _ >>= _) _ _ _
    refine wpAny_bind (wpAny_tryCatch (wpAny_holding (wpAny_bind (cmp (j + 1) (argBest bt j) v vb _ _ _ pv' pb ?_))))
    refine wpAny_bind (wpAny_holding (wpAny_truthy_bool (wpAny_bind (wpAny_letGo (wpAny_pure ?_)))))
    by_cases hb : bt (j + 1) (argBest bt j) = true
    · have eb : argBest bt (j + 1) = j + 1 := by unfold argBest; rw [if_pos hb]
      simp only [hb, if_true]
      refine wpAny_bind (wpAny_updateSeq hS2 rfl (wpAny_bind (wpAny_letGo ?_)))
      rw [minLoopName]
      refine wpAny_pure ⟨plainId_quiet F.plain_min_loop _, ih (j + 1) _ v _ (by omega) lt (W.frame _ _ _ st' fun b bf o e => ?_) (by rw [eb]; exact pv') (Heap.get?_update_self _ hS2 rfl) fun v2 h2 tk2 p2 k2 => ?_⟩
      · exact (Heap.get?_update_other _ _ (show S ≠ b from fun z => nS (by rw [z]; exact bf))).trans e
      · exact hR v2 h2 tk2 p2 fun b o nb nbS e => k2 b o nb nbS ((Heap.get?_update_other _ _ (Ne.symm nbS)).trans (hk b o nb e))
    · have eb : argBest bt (j + 1) = argBest bt j := by
        show (if bt (j + 1) (argBest bt j) then j + 1 else argBest bt j) = _
        rw [if_neg hb]
      simp only [hb, if_false, Bool.false_eq_true]
      refine wpAny_bind (wpAny_letGo ?_)
      rw [minLoopName]
      exact wpAny_pure ⟨plainId_quiet F.plain_min_loop _, ih (j + 1) _ vb c (by omega) lt st' (by rw [eb]; exact pb) hS2 fun v2 h2 tk2 p2 k2 => hR v2 h2 tk2 p2 fun b o nb nbS e => k2 b o nb nbS (hk b o nb e)⟩
theorem min_first (W : Walks prog w A.in1 I fp wr n Pn Sn) (bt : Nat → Nat → Bool) (cmp : CmpOf prog w A.in1 .Lt Pn bt) (S : Addr) (nS : S ∉ fp) (pos : 0 < n) {s : Shared} {c : Nat} (st : Sn 0 s.heap) (hS : s.heap.get? S = some { cls := .type "list", dict := none, data := .seq #[] c, slots := #[] })
    (hR : ∀ v h' tk, Pn (argBest bt (n - 1)) v → (∀ b o, b ∉ wr → b ≠ S → s.heap.get? b = some o → h'.get? b = some o) →
      R (.ok (.ret v)) { s with heap := h', toks := tk }) :
    codeAny (model prog w) A (.builtin "min.loop" ⟨[.ref I, .none, .ref S], kw⟩) R s := by
  have nSw : S ∉ wr := fun z => nS (W.sub _ z)
  refine codeAny_builtin F.entry_min_loop ?_
  rw [Around.under_plainId F.plain_min_loop _]
  show wpAny _ A.in1 (seqItems? (Value.ref S) >>= _) _ _ s
  refine wpAny_bind (wpAny_seqItems hS rfl ?_)
  show wpAny _ A.in1 (tryCatch (pyNext (Value.ref I)) _ >>= _) _ _ s
  refine wpAny_bind (wpAny_tryCatch (W.item 0 s _ _ pos st ?_))
  intro v h' tk pv' st' hk
  have hS2 := hk S _ nSw hS
  show wpAny _ A.in1 (updateSeq S (fun _ => #[v, v]) >>= _) _ _ _
  refine wpAny_bind (wpAny_updateSeq hS2 rfl ?_)
  rw [minLoopName]
  refine wpAny_pure ⟨plainId_quiet F.plain_min_loop _, min_turns W bt cmp S nS _ 0 _ v _ rfl pos (W.frame _ _ _ st' fun b bf o e => ?_) pv' (Heap.get?_update_self _ hS2 rfl) fun v2 h2 tk2 p2 k2 => ?_⟩
  · exact (Heap.get?_update_other _ _ (show S ≠ b from fun z => nS (by rw [z]; exact bf))).trans e
  · exact hR v2 h2 tk2 p2 fun b o nb nbS e => k2 b o nb nbS ((Heap.get?_update_other _ _ (Ne.symm nbS)).trans (hk b o nb e))
theorem min_none (W : Walks prog w A.in1 I fp wr 0 Pn Sn) (S : Addr) (nS : S ∉ fp) {x : Str} {d : Value} {s : Shared} {c : Nat} (st : Sn 0 s.heap) (hS : s.heap.get? S = some { cls := .type "list", dict := none, data := .seq #[] c, slots := #[] })
    (hR : ∀ h' tk, (∀ b o, b ∉ wr → s.heap.get? b = some o → h'.get? b = some o) → R (.ok (.ret d)) { s with heap := h', toks := tk }) :
    codeAny (model prog w) A (.builtin "min.loop" ⟨[.ref I, .none, .ref S], [(x, d)]⟩) R s := by
  refine codeAny_builtin F.entry_min_loop ?_
  rw [Around.under_plainId F.plain_min_loop _]
  show wpAny _ A.in1 (seqItems? (Value.ref S) >>= _) _ _ s
  refine wpAny_bind (wpAny_seqItems hS rfl ?_)
  show wpAny _ A.in1 (tryCatch (pyNext (Value.ref I)) _ >>= _) _ _ s
  refine wpAny_bind (wpAny_tryCatch (W.done s _ _ st ?_))
  intro h' tk hk
  exact wpAny_bind (wpAny_rule (wpAny_pure (hR h' tk hk)))
end
theorem args_dflt (a v : Value) : argsOk "min" ⟨[a], [(Str.ofString "default", v)]⟩ := by unfold argsOk; kernel_rfl
section
variable {prog : Program} {w : World} {A : Around} {E : Value → Shared → Prop} {s : Shared} {l : Addr} {xs : Array (Int × Tok)}
theorem min_default {Q : Value → Shared → Prop} (hh : A.handled = none) (hl : s.heap.IsList l (intItems xs))
    (h0 : xs.size = 0 → ∀ h' tk, (∀ b o, s.heap.get? b = some o → h'.get? b = some o) → Q .none { s with heap := h', toks := tk })
    (h1 : 0 < xs.size → ∀ v h' tk, (intItems xs)[argBest (fun i j => decide (numAt xs i < numAt xs j)) (xs.size - 1)]? = some v → (∀ b o, s.heap.get? b = some o → h'.get? b = some o) → Q v { s with heap := h', toks := tk }) :
    wpAny (model prog w) A (call (.builtin "min") [.ref l] [(Str.ofString "default", .none)]) Q E s := by
  refine PyProof.Rows.kmk_tree F.kind_min F.plain_min F.entry_min (args_dflt _ _) ?_
  show wpAny _ A.in1 (Builtin.Builtins.bindParams "min" ["key", "default"] 0 ⟨[], [(Str.ofString "default", Value.none)]⟩ >>= _) _ _ s
  refine wpAny_bind (wpAny_of_eq (show Builtin.Builtins.bindParams "min" ["key", "default"] 0 ⟨[], [(Str.ofString "default", Value.none)]⟩ = pure [none, some Value.none] from rfl) ?_)
  refine wpAny_bind (wpAny_pure (wpAny_bind (iter_intList hl ?_)))
  intro s2 es st hfp nlI
  subst es
  refine wpAny_bind (wpAny_newObj_type ?_)
  rw [minLoopName]
  have W := Walks.list (prog := prog) (w := w) (A := A.in1) hh s.heap.objs.size l nlI (intItems xs)
  have nS : (s.heap.push { cls := .type "list_iterator", data := .fields #[.ref l, .int 0 0] }).objs.size ∉ [s.heap.objs.size, l] := fun z => Nat.lt_irrefl _ (hfp _ z)
  have ez : (intItems xs).size = xs.size := by simp [intItems]
  have kept : ∀ h' : Heap, (∀ b o, b ∉ [s.heap.objs.size] → b ≠ (s.heap.push { cls := .type "list_iterator", data := .fields #[.ref l, .int 0 0] }).objs.size →
      ((s.heap.push { cls := .type "list_iterator", data := .fields #[.ref l, .int 0 0] }).push { cls := .type "list", data := .seq #[] 0 }).get? b = some o → h'.get? b = some o) →
      ∀ b o, s.heap.get? b = some o → h'.get? b = some o := fun h' hk => old_kept fun b o nb e => hk b o nb (Nat.ne_of_lt (Heap.lt_size e)) (Heap.get?_push_of_some _ e)
  rcases Nat.eq_zero_or_pos xs.size with hz | hz
  · rw [ez, hz] at W
    exact wpAny_pure ⟨plainId_quiet F.plain_min_loop _, min_none W _ nS (W.frame _ _ _ st fun b _ o e => Heap.get?_push_of_some _ e) (Heap.get?_push_size _ rfl) fun h' tk hk => h0 hz h' tk (kept h' fun b o nb _ e => hk b o nb e)⟩
  · refine wpAny_pure ⟨plainId_quiet F.plain_min_loop _, min_first W _ (CmpOf.ints_lt (numAt xs) fun _ _ => intItems_at) _ nS (by rw [ez]; exact hz) (W.frame _ _ _ st fun b _ o e => Heap.get?_push_of_some _ e) (Heap.get?_push_size _ rfl) fun v h' tk pv' hk => ?_⟩
    rw [ez] at pv'
    exact h1 hz v h' tk pv' (kept h' hk)
end
/-- the least of a list of ints, or nothing -/
def leastV (ns : List Int) : V → Prop := fun v => (ns = [] ∧ v = .non) ∨ ∃ m : Int, m ∈ ns ∧ (∀ y ∈ ns, m ≤ y) ∧ v = .int m
def rMinD (K : PySem.W.Frag) : List V → List V → Hp → VK → Prop := fun vs zs H Q => ∃ (a : Addr) (ns : List Int), vs = [V.ref a] ∧ zs = [V.non] ∧ SqL K H a (ns.map V.int) ∧ ∀ v, leastV ns v → Q v H
theorem cr_minD {X : Cx} (hc : X.calm = true) : CallRK X (.builtin "min") ["default"] (rMinD X.K) := by
  intro pins s σ H vs zs us ws Q I r rz h
  obtain ⟨a, ns, rfl, rfl, hs, q⟩ := h
  obtain ⟨its, rv, hl, _⟩ := I.list hs
  rw [Vals.ref1 r]
  obtain ⟨d, rfl, rd⟩ := vals1 rz
  cases (show d = Value.none from rd)
  have hi := rv.ints
  obtain ⟨xs, e⟩ := hi.allInts.items
  have hn : numsOf (intItems xs).toList = ns := by rw [← e]; exact hi.numsOf
  rw [nums_intItems] at hn
  subst hn
  have hl2 := hl.isList
  rw [e] at hl2
  refine min_default (I.ok.hd hc) hl2 (fun hz h' tk hk => ⟨.non, H, I.kept hk, rfl, q _ (.inl ⟨?_, rfl⟩)⟩) (fun hz v h' tk hv hk => ?_)
  · have : xs.toList.length = 0 := by simpa using hz
    rw [List.length_eq_zero_iff.mp this]
    rfl
  · obtain ⟨t, rfl⟩ := intItems_at hv
    obtain ⟨b1, b2⟩ := argBest_lt (numAt xs) (xs.size - 1)
    refine ⟨.int _, H, I.kept hk, ⟨_, rfl⟩, q _ (.inr ⟨_, ?_, fun y hy => ?_, rfl⟩)⟩
    · rw [numAt_eq]
      exact PySem.getD_mem (by rw [List.length_map, Array.length_toList]; omega)
    · obtain ⟨j, hj, rfl⟩ := mem_getD hy
      rw [List.length_map, Array.length_toList] at hj
      rw [← numAt_eq]
      exact b2 j (by omega)
end RS
namespace RS
open PySem L2
structure TxtP (K : PySem.W.Frag) (mg : Str → Option Value) (CLp : Addr) : Prop where
  cl : Cls K CLp
  nP : NoAttr K CLp "_period"
  nF : NoAttr K CLp "_first"
  nO : NoAttr K CLp "_offsets"
  nC : NoAttr K CLp "_clients"
  nL : NoAttr K CLp "_lone"
  nH : NoAttr K CLp "_changed"
  mgP : mg "Loop" = some (.ref CLp)
theorem flds_cons (g t o : Addr) : flds g t o ≠ [] := fun e => by
  have := flds_g g t o
  rw [e] at this
  cases this
def entF (f : Int → List Nat) (L : List Int) (c : Nat) : Int → List Nat := fun r => if r ∈ L then f r ++ [c] else f r
theorem entF_snoc (f : Int → List Nat) (L : List Int) (c : Nat) {r : Int} (h : r ∉ L) : (fun x => if x = r then entF f L c r ++ [c] else entF f L c x) = entF f (L ++ [r]) c := by
  funext x
  unfold entF
  by_cases hx : x = r
  · subst hx
    rw [if_pos rfl, if_neg h, if_pos (List.mem_append_right _ (List.mem_singleton.mpr rfl))]
  · rw [if_neg hx]
    by_cases hl : x ∈ L
    · rw [if_pos hl, if_pos (List.mem_append_left _ hl)]
    · rw [if_neg hl, if_neg (fun z => (List.mem_append.mp z).elim hl fun z => hx (List.mem_singleton.mp z))]
theorem erase_at : ∀ (l : List Nat) (c : Nat), c ∈ l → ∃ j, l[j]? = some c ∧ (∀ i, i < j → l[i]? ≠ some c) ∧ l.eraseIdx j = l.erase c
  | [], _, h => nomatch h
  | a :: l, c, h => by
    by_cases e : a = c
    · subst e
      exact ⟨0, rfl, fun i hi => absurd hi (Nat.not_lt_zero _), by rw [List.erase_cons_head]; rfl⟩
    · obtain ⟨j, h1, h2, h3⟩ := erase_at l c ((List.mem_cons.mp h).resolve_left fun z => e z.symm)
      refine ⟨j + 1, h1, fun i hi => ?_, ?_⟩
      · cases i with
        | zero => exact fun z => e (Option.some.inj z)
        | succ i => exact h2 i (by omega)
      · rw [List.erase_cons_tail (by simpa using e), ← h3]
        rfl
theorem inV_nat (c : Nat) (l : List Nat) : inV (.int (c : Int)) (l.map nV) = decide (c ∈ l) := by
  rw [Bool.eq_iff_iff, decide_eq_true_iff]
  unfold inV
  rw [List.any_eq_true]
  constructor
  · rintro ⟨y, hy, e⟩
    obtain ⟨z, hz, rfl⟩ := List.mem_map.mp hy
    have e : ((z : Int) == (c : Int)) = true := e
    have := eq_of_beq e
    have : z = c := by omega
    rw [← this]
    exact hz
  · intro h
    exact ⟨nV c, List.mem_map.mpr ⟨c, h, rfl⟩, (beq_self_eq_true (c : Int) : ((c : Int) == (c : Int)) = true)⟩
theorem nats_flat (l : List Nat) : (l.map nV).all flatV = true := by
  rw [List.all_eq_true]
  intro x hx
  obtain ⟨n, _, rfl⟩ := List.mem_map.mp hx
  rfl
section
variable {P : Program} {w : World} {K : PySem.W.Frag} {mg : Str → Option Value} {base : Heap}
section
variable {C p o d : Addr} {gs : List Int} {m : Nat} {ks : List Int} {as : List Addr} {f : Int → List Nat} {L : Option Int} {ch : Bool} {H : Hp} {σ : L2.St} {i : Nat}
theorem rpP {Q : VK} (T : TxtP K mg C) (R : LoopAt C H p o d gs m ks as f L ch) (hi : σ[i]? = some (some (.ref p))) (z : Q (.int (per gs m)) H) : tFld K (tVar i) "_period" σ H Q := by
  obtain ⟨dx, h⟩ := R.ob
  exact ⟨_, hi, p, C, dx, _, _, rfl, h, T.cl, T.nP, lpf_P _ _ _ _ _ _, z⟩
theorem rpF {Q : VK} (T : TxtP K mg C) (R : LoopAt C H p o d gs m ks as f L ch) (hi : σ[i]? = some (some (.ref p))) (z : Q (.int ((gs.length - m : Nat) : Int)) H) : tFld K (tVar i) "_first" σ H Q := by
  obtain ⟨dx, h⟩ := R.ob
  exact ⟨_, hi, p, C, dx, _, _, rfl, h, T.cl, T.nF, lpf_F _ _ _ _ _ _, z⟩
theorem rpO {Q : VK} (T : TxtP K mg C) (R : LoopAt C H p o d gs m ks as f L ch) (hi : σ[i]? = some (some (.ref p))) (z : Q (.ref o) H) : tFld K (tVar i) "_offsets" σ H Q := by
  obtain ⟨dx, h⟩ := R.ob
  exact ⟨_, hi, p, C, dx, _, _, rfl, h, T.cl, T.nO, lpf_o _ _ _ _ _ _, z⟩
theorem rpC {Q : VK} (T : TxtP K mg C) (R : LoopAt C H p o d gs m ks as f L ch) (hi : σ[i]? = some (some (.ref p))) (z : Q (.ref d) H) : tFld K (tVar i) "_clients" σ H Q := by
  obtain ⟨dx, h⟩ := R.ob
  exact ⟨_, hi, p, C, dx, _, _, rfl, h, T.cl, T.nC, lpf_d _ _ _ _ _ _, z⟩
theorem rpL {Q : VK} (T : TxtP K mg C) (R : LoopAt C H p o d gs m ks as f L ch) (hi : σ[i]? = some (some (.ref p))) (z : Q (optV L) H) : tFld K (tVar i) "_lone" σ H Q := by
  obtain ⟨dx, h⟩ := R.ob
  exact ⟨_, hi, p, C, dx, _, _, rfl, h, T.cl, T.nL, lpf_L _ _ _ _ _ _, z⟩
theorem rpH {Q : VK} (T : TxtP K mg C) (R : LoopAt C H p o d gs m ks as f L ch) (hi : σ[i]? = some (some (.ref p))) (z : Q (.bl ch) H) : tFld K (tVar i) "_changed" σ H Q := by
  obtain ⟨dx, h⟩ := R.ob
  exact ⟨_, hi, p, C, dx, _, _, rfl, h, T.cl, T.nH, lpf_c _ _ _ _ _ _, z⟩
/-- the loop's object written anew -/
theorem LoopAt.obj (R : LoopAt C H p o d gs m ks as f L ch) {dx : Addr} {L2 : Option Int} {c2 : Bool} : LoopAt C (upd H p (.ins C dx (lpf (.int (per gs m)) (.int ((gs.length - m : Nat) : Int)) o d (optV L2) c2))) p o d gs m ks as f L2 c2 := by
  have n := R.npd
  refine ⟨⟨dx, upd_same⟩, by rw [upd_ne n.2.1]; exact R.ho, R.D.keep (upd_ne n.1) fun a ha => upd_ne fun e => n.2.2.1 (e ▸ ha), R.no, R.kb, R.bd, R.okG, R.h1, R.h2⟩
/-- self._changed = x -/
theorem rpSet {D : Ends} {x : Bool} (T : TxtP K mg C) (R : LoopAt C H p o d gs m ks as f L ch) (hi : σ[i]? = some (some (.ref p))) (z : ∀ H', Kx p H H' → LoopAt C H' p o d gs m ks as f L x → D.nx σ H') : sFld K (tVar i) (tC (.bl x)) "_changed" D σ H := by
  obtain ⟨dx, h⟩ := R.ob
  refine ⟨_, hi, p, C, dx, _, rfl, h, T.cl, T.nH, (by show 6 < 1000; decide), ?_⟩
  rw [lpf_sc]
  exact z _ Kx.upd R.obj
end
/-! ### Loop.__init__ -/
def spLp (C CLp : Addr) : Sp := fun vs H Q _ => ∃ (p dx r g t o' : Addr) (gs : List Int) (m : Nat), vs = [.ref p, .ref r] ∧ H p = some (.ins CLp dx []) ∧ RuleAt C H r g t o' gs (.rep m) ∧
  ∀ (o d : Addr) (H' : Hp), H o = none → H d = none → (∀ b u, H b = some u → b ≠ p → H' b = some u) → LoopAt CLp H' p o d gs m [] [] (fun _ => []) none false → Q .non H'
theorem scLp : FnScope ["self", "rule"] ["self", "rule"] (defScope s_Loop_ddinitdd) := ⟨rfl, rfl, rfl, by decide +kernel, rfl, by decide +kernel, by decide +kernel⟩
theorem RuleAt.offx {C p : Addr} {H : Hp} {r g t o : Addr} {gs : List Int} {tl : Tl} {u : HO} (R : RuleAt C H r g t o gs tl) (h : ∃ C2 dx2 fs, H p = some (.ins C2 dx2 fs)) (nr : r ≠ p) : RuleAt C (upd H p u) r g t o gs tl := by
  obtain ⟨C2, dx2, fs, e⟩ := h
  exact R.kx (a := p) (fun b o' nb e => by rw [upd_ne nb]; exact e) nr (ne_of R.hg e (by intro z; cases z)) (ne_of R.ht e (by intro z; cases z)) (ne_of R.ho e (by intro z; cases z))
theorem ok_lp {f C CLp fP fF fO : Addr} {fd fdP fdF fdO : FuncData} (F : Fun K "__init__" "Loop.__init__" s_Loop_ddinitdd f fd) (T : Txt K mg C) (TP : TxtP K mg CLp) (GP : FnOk P w K mg base CX0 2 fP fdP ["self"] (spPer C)) (bP : Binds K fdP ["self"] []) (mP : Meth K C "period" fP)
    (GF : FnOk P w K mg base CX0 1 fF fdF ["self"] (spFR C)) (bF : Binds K fdF ["self"] []) (mF : Meth K C "first_repeating" fF) (GO : FnOk P w K mg base CX0 3 fO fdO ["rule"] (spRO C)) (bO : Binds K fdO ["rule"] []) (mO : mg "repeating_offsets" = some (.ref fO)) (kO : PySem.W.keepIn K (.ref fO) = true) : FnOk P w K mg base CX0 4 f fd ["self", "rule"] (spLp C CLp) := by
  refine F.ok scLp (fun vs H Q E h => ?_) (fun cdv A outer s H vs Q E hr h => ?_)
  · obtain ⟨p, dx, r, g, t, o', gs, m, rfl, _⟩ := h
    rfl
  · obtain ⟨p, dx, r, g, t, o', gs, m, rfl, hp, R, k⟩ := h
    have hr1 := hr.mono (show 1 ≤ 3 by decide)
    have hr2 := hr.mono (show 2 ≤ 3 by decide)
    refine ⟨_, (pss_cons (ps_fld (pv 0) (pe_meth0 (pv 1) T.cl mP GP hr2 bP .nil pass0) rfl) (pss_cons (ps_fld (pv 0) (pe_meth0 (pv 1) T.cl mF GF hr1 bF .nil pass0) rfl) (pss_cons (ps_fld (pv 0) (pe_call GO hr rfl mO kO bO .nil pass0 (pa_cons (pv 1) pa_nil)) rfl) (pss_cons (ps_fld (pv 0) pe_dnewK rfl) (pss_cons (ps_fld (pv 0) pe_non rfl) (pss_one (ps_fld (pv 0) pe_bl rfl))))))), ?_⟩
    obtain ⟨dxr, hob⟩ := R.ob
    have nrp : r ≠ p := ne_of hob hp (by intro z; injection z with z1 z2 z3; exact flds_cons g t o' z3)
    refine ⟨_, rfl, r, dxr, _, rfl, hob, flds_no _ _ _ (by decide +kernel) (by decide +kernel) (by decide +kernel), r, g, t, o', gs, .rep m, rfl, R, ?_⟩
    refine ⟨_, rfl, p, CLp, dx, _, rfl, hp, TP.cl, TP.nP, (by show 0 < 1000; decide), ?_⟩
    have R1 := R.offx (u := .ins CLp dx (putF "_period" (perV gs (.rep m)) [])) ⟨_, _, _, hp⟩ nrp
    have hp1 := upd_same (H := H) (a := p) (o := .ins CLp dx (putF "_period" (perV gs (.rep m)) []))
    have kp1 : ∀ b u, H b = some u → b ≠ p → (upd H p (.ins CLp dx (putF "_period" (perV gs (.rep m)) []))) b = some u := fun b u e nb => by rw [upd_ne nb]; exact e
    have nn1 : ∀ b, (upd H p (.ins CLp dx (putF "_period" (perV gs (.rep m)) []))) b = none → H b = none := fun b hb => by
      by_cases e : b = p
      · subst e
        rw [hp1] at hb
        cases hb
      · rw [upd_ne e] at hb
        exact hb
    generalize upd H p (.ins CLp dx (putF "_period" (perV gs (.rep m)) [])) = H1 at R1 hp1 kp1 nn1
    obtain ⟨dxr1, hob1⟩ := R1.ob
    refine ⟨_, rfl, r, dxr1, _, rfl, hob1, flds_no _ _ _ (by decide +kernel) (by decide +kernel) (by decide +kernel), r, g, t, o', gs, m, rfl, R1, ?_⟩
    refine ⟨_, rfl, p, CLp, dx, _, rfl, hp1, TP.cl, TP.nF, (by show 1 < 1000; decide), ?_⟩
    have R2 := R1.offx (u := .ins CLp dx (putF "_first" (.int ((gs.length - m : Nat) : Int)) (putF "_period" (perV gs (.rep m)) []))) ⟨_, _, _, hp1⟩ nrp
    have hp2 := upd_same (H := H1) (a := p) (o := .ins CLp dx (putF "_first" (.int ((gs.length - m : Nat) : Int)) (putF "_period" (perV gs (.rep m)) [])))
    have kp2 : ∀ b u, H1 b = some u → b ≠ p → (upd H1 p (.ins CLp dx (putF "_first" (.int ((gs.length - m : Nat) : Int)) (putF "_period" (perV gs (.rep m)) [])))) b = some u := fun b u e nb => by rw [upd_ne nb]; exact e
    have nn2 : ∀ b, (upd H1 p (.ins CLp dx (putF "_first" (.int ((gs.length - m : Nat) : Int)) (putF "_period" (perV gs (.rep m)) [])))) b = none → H1 b = none := fun b hb => by
      by_cases e : b = p
      · subst e
        rw [hp2] at hb
        cases hb
      · rw [upd_ne e] at hb
        exact hb
    generalize upd H1 p (.ins CLp dx (putF "_first" (.int ((gs.length - m : Nat) : Int)) (putF "_period" (perV gs (.rep m)) []))) = H2 at R2 hp2 kp2 nn2
    refine ⟨_, rfl, r, g, t, o', gs, m, rfl, R2, fun q H3 hq S3 hq3 => ?_⟩
    have hp3 := S3 _ _ hp2
    have npq : p ≠ q := ne_of_none hp2 hq
    refine ⟨_, rfl, p, CLp, dx, _, rfl, hp3, TP.cl, TP.nO, (by show 2 < 1000; decide), ?_⟩
    have hp4 := upd_same (H := H3) (a := p) (o := .ins CLp dx (putF "_offsets" (.ref q) (putF "_first" (.int ((gs.length - m : Nat) : Int)) (putF "_period" (perV gs (.rep m)) []))))
    have kp4 : ∀ b u, H3 b = some u → b ≠ p → (upd H3 p (.ins CLp dx (putF "_offsets" (.ref q) (putF "_first" (.int ((gs.length - m : Nat) : Int)) (putF "_period" (perV gs (.rep m)) []))))) b = some u := fun b u e nb => by rw [upd_ne nb]; exact e
    have nn4 : ∀ b, (upd H3 p (.ins CLp dx (putF "_offsets" (.ref q) (putF "_first" (.int ((gs.length - m : Nat) : Int)) (putF "_period" (perV gs (.rep m)) []))))) b = none → H3 b = none := fun b hb => by
      by_cases e : b = p
      · subst e
        rw [hp4] at hb
        cases hb
      · rw [upd_ne e] at hb
        exact hb
    generalize upd H3 p (.ins CLp dx (putF "_offsets" (.ref q) (putF "_first" (.int ((gs.length - m : Nat) : Int)) (putF "_period" (perV gs (.rep m)) [])))) = H4 at hp4 kp4 nn4
    have hq4 := kp4 _ _ hq3 npq.symm
    refine fun d hd => ?_
    have npd : p ≠ d := ne_of_none hp4 hd
    have nqd : q ≠ d := ne_of_none hq4 hd
    refine ⟨_, rfl, p, CLp, dx, _, rfl, (by rw [upd_ne npd]; exact hp4), TP.cl, TP.nC, (by show 3 < 1000; decide), ?_⟩
    refine ⟨_, rfl, p, CLp, dx, _, rfl, upd_same, TP.cl, TP.nL, (by show 4 < 1000; decide), ?_⟩
    refine ⟨_, rfl, p, CLp, dx, _, rfl, upd_same, TP.cl, TP.nH, (by show 5 < 1000; decide), ?_⟩
    have ef : putF "_changed" (.bl false) (putF "_lone" V.non (putF "_clients" (.ref d) (putF "_offsets" (.ref q) (putF "_first" (.int ((gs.length - m : Nat) : Int)) (putF "_period" (perV gs (.rep m)) []))))) = lpf (.int (per gs m)) (.int ((gs.length - m : Nat) : Int)) q d (optV none) false := by
      show putF "_changed" _ (putF "_lone" _ (putF "_clients" _ (putF "_offsets" _ (putF "_first" _ [(("_period" : Str), V.int (per gs m))])))) = _
      rw [pfn (f := "_first") (by decide +kernel)]
      show putF "_changed" _ (putF "_lone" _ (putF "_clients" _ (putF "_offsets" _ [(("_period" : Str), V.int (per gs m)), ("_first", _)]))) = _
      rw [pfn (f := "_offsets") (by decide +kernel), pfn (f := "_offsets") (by decide +kernel)]
      show putF "_changed" _ (putF "_lone" _ (putF "_clients" _ [(("_period" : Str), V.int (per gs m)), ("_first", _), ("_offsets", _)])) = _
      rw [pfn (f := "_clients") (by decide +kernel), pfn (f := "_clients") (by decide +kernel), pfn (f := "_clients") (by decide +kernel)]
      show putF "_changed" _ (putF "_lone" _ [(("_period" : Str), V.int (per gs m)), ("_first", _), ("_offsets", _), ("_clients", _)]) = _
      rw [pfn (f := "_lone") (by decide +kernel), pfn (f := "_lone") (by decide +kernel), pfn (f := "_lone") (by decide +kernel), pfn (f := "_lone") (by decide +kernel)]
      show putF "_changed" _ [(("_period" : Str), V.int (per gs m)), ("_first", _), ("_offsets", _), ("_clients", _), ("_lone", _)] = _
      rw [pfn (f := "_changed") (by decide +kernel), pfn (f := "_changed") (by decide +kernel), pfn (f := "_changed") (by decide +kernel), pfn (f := "_changed") (by decide +kernel), pfn (f := "_changed") (by decide +kernel)]
      rfl
    rw [ef]
    refine k q d _ (nn1 _ (nn2 _ hq)) (nn1 _ (nn2 _ (S3.free (nn4 _ hd)))) (fun b u e nb => ?_) ⟨⟨dx, upd_same⟩, ?_, ⟨?_, List.Pairwise.nil, List.Pairwise.nil, rfl, (fun j r a e _ => nomatch e), fun _ _ => rfl⟩, (fun h => nomatch h), fun r hr => (nomatch hr), fun r => Nat.zero_le _, R.okG, R.okT.1, R.okT.2⟩
    · rw [upd_ne nb, upd_ne nb, upd_ne nb]
      have e4 := kp4 _ _ (S3 _ _ (kp2 _ _ (kp1 _ _ e nb) nb)) nb
      rw [upd_ne (ne_of_none e4 hd)]
      exact e4
    · rw [upd_ne npq.symm, upd_ne npq.symm, upd_ne npq.symm, upd_ne nqd]
      exact hq4
    · rw [upd_ne npd.symm, upd_ne npd.symm, upd_ne npd.symm, upd_same]
      rfl
end
end RS
namespace RS
open PySem L2
section
variable {P : Program} {w : World} {K : PySem.W.Frag} {mg : Str → Option Value} {base : Heap}
/-! ### Loop.enter -/
theorem forO {C p o d : Addr} {gs : List Int} {m : Nat} {ks : List Int} {as : List Addr} {f : Int → List Nat} {L : Option Int} {ch : Bool} {H : Hp} {σ : L2.St} {i : Nat} {g : TG} {tb : TS} {D : Ends} (T : TxtP K mg C) (R : LoopAt C H p o d gs m ks as f L ch) (hi : σ[i]? = some (some (.ref p)))
    (z : ∃ W : Nat → Nat → L2.St → Hp → Prop, (∃ m, W 0 m σ H) ∧ ∀ i m σ H, W i m σ H → ((Itl K o).stop i H ∧ D.nx σ H) ∨ ((Itl K o).go i H ∧ ∃ N : L2.St → Hp → Prop, (∀ σ' H', N σ' H' → ∃ m', m' < m ∧ W (i + 1) m' σ' H') ∧ ∀ x H', (Itl K o).yld i H x H' → g x σ H' fun σ2 H2 => tb { D with nx := N, ct := N, bk := D.nx } σ2 H2)) :
    tFor (iList K (tFld K (tVar i) "_offsets")) g tb D σ H := by
  dsimp only [tFor, iList]
  exact rpO T R hi ⟨o, rfl, ⟨_, SqL.of R.ho⟩, z⟩
/-- what the loop owns may be written, and new lists be added -/
structure Grown (H H' : Hp) (p d : Addr) (as as' : List Addr) : Prop where
  fp : FpL p d as H H'
  nw : ∀ a ∈ as', a ∈ as ∨ H a = none
  sub : ∀ a ∈ as, a ∈ as'
theorem Grown.refl {H : Hp} {p d : Addr} {as : List Addr} : Grown H H p d as as := ⟨fun _ _ e _ _ _ => e, fun _ h => .inl h, fun _ h => h⟩
theorem Grown.same {H H1 H2 : Hp} {p d : Addr} {as as' : List Addr} (G : Grown H H1 p d as as') (S : Same H1 H2) : Grown H H2 p d as as' := ⟨fun c u e a b z => S _ _ (G.fp c u e a b z), G.nw, G.sub⟩
theorem Grown.trans {H H1 H2 : Hp} {p d : Addr} {as a1 a2 : List Addr} (G : Grown H H1 p d as a1) (G2 : Grown H1 H2 p d a1 a2) (hn : ∀ a, H1 a = none → a ≠ p → a ≠ d → a ∉ as → H a = none) (hp : p ∉ a2) (hd : d ∉ a2) : Grown H H2 p d as a2 := by
  refine ⟨fun c u e n1 n2 n3 => G2.fp c u (G.fp c u e n1 n2 n3) n1 n2 fun z => ?_, fun a ha => ?_, fun a ha => G2.sub a (G.sub a ha)⟩
  · rcases G.nw c z with z | z
    · exact n3 z
    · rw [e] at z
      cases z
  · by_cases h : a ∈ as
    · exact .inl h
    · rcases G2.nw a ha with z | z
      · exact G.nw a z
      · exact .inr (hn a z (fun e => hp (e ▸ ha)) (fun e => hd (e ▸ ha)) h)
theorem Grown.free {H H1 : Hp} {p d : Addr} {as a1 : List Addr} (G : Grown H H1 p d as a1) {a : Addr} (h : H1 a = none) (n1 : a ≠ p) (n2 : a ≠ d) (n3 : a ∉ as) : H a = none := by
  cases e : H a with
  | none => rfl
  | some u =>
    rw [G.fp a u e n1 n2 n3] at h
    cases h
theorem LoopAt.put {C p o d : Addr} {gs : List Int} {m : Nat} {ks : List Int} {as : List Addr} {f : Int → List Nat} {L : Option Int} {ch : Bool} {H : Hp} (R : LoopAt C H p o d gs m ks as f L ch) {j : Nat} {r : Int} {a : Addr} (h1 : ks[j]? = some r) (h2 : as[j]? = some a) (l : List Nat) (hl : l.length ≤ 1000) :
    LoopAt C (upd H a (.lst (l.map nV))) p o d gs m ks as (fun x => if x = r then l else f x) L ch := by
  have hm := List.mem_of_getElem? h2
  have np := R.npd
  refine ⟨let ⟨dx, e⟩ := R.ob; ⟨dx, by rw [upd_ne (fun (z : p = a) => np.2.2.1 (z ▸ hm))]; exact e⟩, by rw [upd_ne (fun (z : o = a) => R.no (z ▸ hm))]; exact R.ho, R.D.set h1 h2 l, R.no, R.kb, fun x => ?_, R.okG, R.h1, R.h2⟩
  show (if x = r then l else f x).length ≤ 1000
  split
  · exact hl
  · exact R.bd x
theorem LoopAt.add {C p o d : Addr} {gs : List Int} {m : Nat} {ks : List Int} {as : List Addr} {f : Int → List Nat} {L : Option Int} {ch : Bool} {H : Hp} (R : LoopAt C H p o d gs m ks as f L ch) {r : Int} {a : Addr} (h : r ∉ ks) (ha : H a = none) (hr : 0 ≤ r ∧ r < per gs m) :
    LoopAt C (upd (upd H a (.lst [])) d (.dK (putK (kvsOf ks as) (Sum.inl r) (.ref a)))) p o d gs m (ks ++ [r]) (as ++ [a]) f L ch := by
  have np := R.npd
  have nao := ne_of_none R.ho ha
  refine ⟨let ⟨dx, e⟩ := R.ob; ⟨dx, by rw [upd_ne np.1.symm, upd_ne (ne_of_none e ha)]; exact e⟩, by rw [upd_ne np.2.2.2.symm, upd_ne nao]; exact R.ho, R.D.add h ha, fun z => ?_, fun x hx => ?_, R.bd, R.okG, R.h1, R.h2⟩
  · rcases List.mem_append.mp z with z | z
    · exact R.no z
    · exact nao (List.mem_singleton.mp z)
  · rcases List.mem_append.mp hx with hx | hx
    · exact R.kb x hx
    · rw [List.mem_singleton.mp hx]
      exact hr
theorem Grown.put {H H1 : Hp} {p d : Addr} {as a1 : List Addr} {u : HO} (G : Grown H H1 p d as a1) {a : Addr} (h : a ∈ a1) : Grown H (upd H1 a u) p d as a1 := by
  refine ⟨fun c v e n1 n2 n3 => ?_, G.nw, G.sub⟩
  have nc : c ≠ a := fun z => by
    subst z
    rcases G.nw c h with y | y
    · exact n3 y
    · rw [e] at y
      cases y
  rw [upd_ne nc]
  exact G.fp c v e n1 n2 n3
theorem Grown.dict {H H1 : Hp} {p d : Addr} {as a1 : List Addr} {u : HO} (G : Grown H H1 p d as a1) : Grown H (upd H1 d u) p d as a1 :=
  ⟨fun c v e n1 n2 n3 => by rw [upd_ne n2]; exact G.fp c v e n1 n2 n3, G.nw, G.sub⟩
theorem Grown.more {H H1 : Hp} {p d : Addr} {as a1 : List Addr} (G : Grown H H1 p d as a1) {a : Addr} (h : H a = none) : Grown H H1 p d as (a1 ++ [a]) :=
  ⟨G.fp, fun b hb => (List.mem_append.mp hb).elim (G.nw b) fun z => .inr (by rw [List.mem_singleton.mp z]; exact h), fun b hb => List.mem_append_left _ (G.sub b hb)⟩
def spEn (C : Addr) : Sp := fun vs H Q _ => ∃ (p o d : Addr) (gs : List Int) (m : Nat) (ks : List Int) (as : List Addr) (f : Int → List Nat) (L : Option Int) (ch : Bool) (c : Nat) (s : Int), vs = [.ref p, .int (c : Int), .int s] ∧ LoopAt C H p o d gs m ks as f L ch ∧ (∀ r, (f r).length ≤ 900) ∧ ks.length ≤ 50000 ∧
  ∀ ks' as' H', Grown H H' p d as as' → ks'.length ≤ ks.length + 20 → LoopAt C H' p o d gs m ks' as' (entF f (resid gs m s) c) L true → Q .non H'
def enN : List Str := ["self", "client", "start", "offset"]
theorem scEn : FnScope enN ["self", "client", "start"] (defScope s_Loop_enter) := ⟨rfl, rfl, rfl, by decide +kernel, rfl, by decide +kernel, by decide +kernel⟩
theorem entF_len {f : Int → List Nat} {L : List Int} {c : Nat} {n : Nat} (h : ∀ r, (f r).length ≤ n) (r : Int) : (entF f L c r).length ≤ n + 1 := by
  unfold entF
  have := h r
  split
  · rw [List.length_append]
    show _ + 1 ≤ _
    omega
  · omega
theorem entF_nil (f : Int → List Nat) (c : Nat) : entF f [] c = f := by
  funext r
  unfold entF
  rw [if_neg (fun h => nomatch h)]
theorem ok_en {f C CLp : Addr} {fd : FuncData} (F : Fun K "enter" "Loop.enter" s_Loop_enter f fd) (T : Txt K mg C) (TP : TxtP K mg CLp) : FnOk P w K mg base CX0 1 f fd ["self", "client", "start"] (spEn CLp) := by
  refine F.ok scEn (fun vs H Q E h => ?_) (fun cdv A outer s H vs Q E hr h => ?_)
  · obtain ⟨p, o, d, gs, m, ks, as, fm, L, ch, c, st, rfl, _⟩ := h
    rfl
  · obtain ⟨p, o, d, gs, m, ks, as, fm, L, ch, c, st, rfl, R, hf, hks, k⟩ := h
    have hu := hu_of hr
    refine ⟨_, (pss_cons (ps_for PassesOwn.never rfl (pi_list (pe_fld (pv 0) rfl)) (pg_name (i := 3) scEn.nd rfl (Or.inl rfl)) (pss_one (ps_expr (pe_bm PySem.F.plainAttrs_list PySem.F.slot_list_append PySem.F.type_list_append mt_append (L2.pe_dsetd (pe_fld (pv 0) rfl) (pe_op op_mod (pe_op op_add (pv 2) (pv 3)) (pe_fld (pv 0) rfl)) (pe_lst pa_nil) ⟨by rfl, by rfl, by rfl, by rfl⟩) (pa_cons (pv 1) pa_nil))))) (pss_one (ps_fld (pv 0) pe_bl rfl))), ?_⟩
    have hper := per_bd R.okG R.h1 R.h2
    have h1 := R.h1
    have hg20 := R.okG.1
    have h2 := R.h2
    have hnd := resid_nodup R.okG R.h1 R.h2 st
    have hol : (repOffs gs m).length = m := by simp [repOffs]
    have ho0 := R.ho
    refine forO TP R rfl ?_
    refine for_list (a := o) (xs := (repOffs gs m).map V.int) (fun j σ H' => ∃ v3 ks' as', σ = [some (.ref p), some (.int (c : Int)), some (.int st), v3] ∧ Grown H H' p d as as' ∧ ks'.length ≤ ks.length + j ∧ LoopAt CLp H' p o d gs m ks' as' (entF fm ((resid gs m st).take j) c) L ch) ⟨none, ks, as, rfl, Grown.refl, Nat.le_refl _, by rw [List.take_zero, entF_nil]; exact R⟩ (fun j σ H' _ z => ?_) ?_ ?_
    · obtain ⟨v3, ks', as', _, _, _, R'⟩ := z
      exact SqL.of R'.ho
    · rintro j x σ H1 hx ⟨v3, ks', as', rfl, G, hl, R1⟩
      obtain ⟨y, hy, rfl⟩ := map_of hx
      have hj := (List.getElem?_eq_some_iff.mp hy).1
      rw [hol] at hj
      have hrr : (resid gs m st)[j]? = some ((st + y) % per gs m) := by
        unfold resid
        rw [List.getElem?_map, hy]
        rfl
      generalize hrv : (st + y) % per gs m = r at hrr
      have hr0 : 0 ≤ r := by rw [← hrv]; exact Int.emod_nonneg _ (by omega)
      have hr1 : r < per gs m := by rw [← hrv]; exact Int.emod_lt_of_pos _ (by omega)
      have hnot : r ∉ (resid gs m st).take j := fun z => by
        obtain ⟨i, hi, e⟩ := List.mem_iff_getElem.mp z
        rw [List.length_take] at hi
        rw [List.getElem_take] at e
        have := nodup_at hnd (List.getElem?_eq_getElem (show i < (resid gs m st).length by omega)) (e ▸ hrr)
        omega
      have etk : (resid gs m st).take (j + 1) = (resid gs m st).take j ++ [r] := by rw [List.take_add_one, hrr]; rfl
      have hfl : ((entF fm ((resid gs m st).take j) c) r).length ≤ 901 := entF_len hf r
      have hbd : ∀ x, (entF fm ((resid gs m st).take (j + 1)) c x).length ≤ 1000 := fun x => Nat.le_trans (entF_len hf x) (by decide)
      have np := R1.npd
      obtain ⟨dx1, hob1⟩ := R1.ob
      refine ⟨_, rfl, p, CLp, dx1, _, _, rfl, hob1, TP.cl, TP.nC, lpf_d _ _ _ _ _ _, d, rfl, .inl ⟨_, .inl R1.D.hd⟩, _, rfl, _, rfl, _, _, rfl, rfl, _, rfl, p, CLp, dx1, _, _, rfl, hob1, TP.cl, TP.nP, lpf_P _ _ _ _ _ _, _, _, rfl, rfl, (by show (0 : Int) < per gs m; omega), (by show 0 ≤ sizeLine; decide), fun l hl0 => ?_⟩
      have S2 := same_new (o := .lst []) hl0
      have R2 := R1.same S2
      have hll : (upd H1 l (.lst [])) l = some (.lst []) := upd_same
      have ell : ∀ b, (upd H1 l (.lst [])) b = none → H1 b = none := fun b hb => S2.free hb
      have S2d := S2 _ _ R1.D.hd
      refine ⟨kvsOf ks' as', Sum.inl r, S2d, congrArg V.int hrv, by rw [kvsOf_len R1.D.len]; exact Nat.lt_of_le_of_lt (show ks'.length ≤ 100000 by omega) (by decide), fun v hv => ?_, fun hv => ?_⟩
      · -- the number is there
        by_cases hm : r ∈ ks'
        case neg =>
          rw [kvsOf_none hm] at hv
          cases hv
        obtain ⟨j', a, hk', ha', hla, hval⟩ := R1.D.at_ hm
        rw [hval] at hv
        cases hv
        refine ⟨.inl ⟨rfl, _, SqL.of (S2 _ _ hla)⟩, _, rfl, a, _, _, rfl, rfl, S2 _ _ hla, ?_, ?_⟩
        · rw [List.length_map]
          exact small1000 (by omega)
        have e1 : (entF fm ((resid gs m st).take j) c r).map nV ++ [V.int (c : Int)] = (entF fm ((resid gs m st).take j) c r ++ [c]).map nV := by
          rw [List.map_append]
          rfl
        rw [e1]
        refine ⟨_, ks', as', rfl, (G.same S2).put (List.mem_of_getElem? ha'), by omega, ?_⟩
        have R3 := R2.put hk' ha' (entF fm ((resid gs m st).take j) c r ++ [c]) (by rw [List.length_append]; show _ + 1 ≤ 1000; omega)
        rw [entF_snoc _ _ _ hnot, ← etk] at R3
        exact R3
      · -- the number is new
        have hm : r ∉ ks' := fun hm => by
          obtain ⟨j', a, hk', ha', hla, hval⟩ := R1.D.at_ hm
          rw [hval] at hv
          cases hv
        have nld : l ≠ d := (ne_of_none R1.D.hd hl0).symm
        have hl3 : (upd (upd H1 l (.lst [])) d (.dK (putK (kvsOf ks' as') (Sum.inl r) (.ref l)))) l = some (.lst []) := by rw [upd_ne nld]; exact hll
        have R3 := R1.add hm hl0 ⟨hr0, hr1⟩
        have hlH : H l = none := G.free hl0 (ne_of_none hob1 hl0).symm nld fun z => by
          obtain ⟨y, e⟩ := R1.D.some_ (G.sub l z)
          rw [hl0] at e
          cases e
        refine ⟨.inl ⟨rfl, _, SqL.of hl3⟩, _, rfl, l, _, _, rfl, rfl, hl3, (by show 0 < sizeLine; decide), ?_⟩
        have hkn : (ks' ++ [r])[ks'.length]? = some r := by rw [List.getElem?_append_right (Nat.le_refl _), Nat.sub_self]; rfl
        have han : (as' ++ [l])[ks'.length]? = some l := by rw [← R1.D.len, List.getElem?_append_right (Nat.le_refl _), Nat.sub_self]; rfl
        have R4 := R3.put hkn han (entF fm ((resid gs m st).take j) c r ++ [c]) (by rw [List.length_append]; show _ + 1 ≤ 1000; omega)
        have e0 : entF fm ((resid gs m st).take j) c r = [] := R1.D.out r hm
        rw [entF_snoc _ _ _ hnot, ← etk, e0] at R4
        exact ⟨_, ks' ++ [r], as' ++ [l], rfl, ((G.same S2).dict.more hlH).put (List.mem_append_right _ (List.mem_singleton.mpr rfl)), by rw [List.length_append]; show _ + 1 ≤ _; omega, R4⟩
    · rintro σ H1 ⟨v3, ks', as', rfl, G, hl, R1⟩
      rw [List.length_map, hol] at hl
      have et : (resid gs m st).take m = resid gs m st := by
        have := List.take_length (l := resid gs m st)
        rwa [resid_len] at this
      rw [List.length_map, hol, et] at R1
      refine rpSet TP R1 rfl fun H2 kx R2 => k ks' as' H2 ⟨fun b u e n1 n2 n3 => kx b u n1 (G.fp b u e n1 n2 n3), G.nw, G.sub⟩ (by omega) R2
end
end RS
namespace RS
open PySem L2
section
variable {P : Program} {w : World} {K : PySem.W.Frag} {mg : Str → Option Value} {base : Heap}
/-! ### Loop.leave -/
theorem nats_ints (l : List Nat) : l.map nV = (l.map fun n : Nat => (n : Int)).map V.int := by rw [List.map_map]; rfl
theorem DictF.get {H : Hp} {d : Addr} {ks : List Int} {as : List Addr} {f : Int → List Nat} (D : DictF H d ks as f) {r : Int} {a : Addr} (hv : valV (kvsOf ks as) (Sum.inl r) = some (.ref a)) : DGet H d (.int r) (some (.ref a)) := .inl ⟨_, Sum.inl r, .inl D.hd, rfl, hv.symm⟩
theorem erase_map {α β : Type} (g : α → β) : ∀ (l : List α) (j : Nat), (l.map g).eraseIdx j = (l.eraseIdx j).map g
  | [], _ => rfl
  | _ :: _, 0 => rfl
  | a :: l, j + 1 => by
    show g a :: (l.map g).eraseIdx j = g a :: (l.eraseIdx j).map g
    rw [erase_map g l j]
def spLv (C : Addr) : Sp := fun vs H Q _ => ∃ (p o d : Addr) (gs : List Int) (m : Nat) (ks : List Int) (as : List Addr) (f : Int → List Nat) (L : Option Int) (ch : Bool) (c : Nat), vs = [.ref p, .int (c : Int)] ∧ LoopAt C H p o d gs m ks as f L ch ∧
  ∀ H', Grown H H' p d as as → LoopAt C H' p o d gs m ks as (fun r => (f r).erase c) L true → Q .non H'
def lvN : List Str := ["self", "client", "residue"]
theorem scLv : FnScope lvN ["self", "client"] (defScope s_Loop_leave) := ⟨rfl, rfl, rfl, by decide +kernel, rfl, by decide +kernel, by decide +kernel⟩
theorem ok_lv {f C CLp : Addr} {fd : FuncData} (F : Fun K "leave" "Loop.leave" s_Loop_leave f fd) (T : Txt K mg C) (TP : TxtP K mg CLp) : FnOk P w K mg base CX0 1 f fd ["self", "client"] (spLv CLp) := by
  refine F.ok scLv (fun vs H Q E h => ?_) (fun cdv A outer s H vs Q E hr h => ?_)
  · obtain ⟨p, o, d, gs, m, ks, as, f, L, ch, c, rfl, _⟩ := h
    rfl
  · obtain ⟨p, o, d, gs, m, ks, as, fm, L, ch, c, rfl, R, k⟩ := h
    have hu := hu_of hr
    refine ⟨_, (pss_cons (ps_for PassesOwn.never rfl (pi_list (pe_callTy (call_list_dK rfl) (by rfl) T.list (by decide +kernel) (pa_cons (pe_fld (pv 0) rfl) pa_nil))) (pg_name (i := 2) scLv.nd rfl (Or.inl rfl)) (pss_one (ps_if (pt_cmpR (r := rIn K false) op_in_seq (pv 1) (pe_dget hu (pe_fld (pv 0) rfl) (pv 2) (fun _ _ => rfl)) (by rfl)) (pss_one (ps_expr (pe_bm PySem.F.plainAttrs_list PySem.F.slot_list_remove PySem.F.type_list_remove mt_remove (pe_dget hu (pe_fld (pv 0) rfl) (pv 2) (fun _ _ => rfl)) (pa_cons (pv 1) pa_nil)))) pss_nil))) (pss_one (ps_fld (pv 0) pe_bl rfl))), ?_⟩
    obtain ⟨dx, hob⟩ := R.ob
    refine ⟨_, rfl, p, CLp, dx, _, _, rfl, hob, TP.cl, TP.nC, lpf_d _ _ _ _ _ _, d, _, rfl, R.D.hd, fun q hq => ?_⟩
    rw [kvsOf_keys R.D.len]
    have S0 := same_new (o := .lst (ks.map V.int)) hq
    have R0 := R.same S0
    have hq0 : (upd H q (.lst (ks.map V.int))) q = some (.lst (ks.map V.int)) := upd_same
    have nqa : q ∉ as := fun z => by
      obtain ⟨y, e⟩ := R.D.some_ z
      rw [hq] at e
      cases e
    have G0 : Grown H (upd H q (.lst (ks.map V.int))) p d as as := Grown.refl.same S0
    generalize upd H q (.lst (ks.map V.int)) = H0 at S0 R0 hq0 G0
    refine ⟨q, rfl, ⟨_, SqL.of hq0⟩, for_list (a := q) (xs := ks.map V.int) (fun i σ H' => ∃ v2, σ = [some (.ref p), some (.int (c : Int)), v2] ∧ Grown H H' p d as as ∧ H' q = some (.lst (ks.map V.int)) ∧ LoopAt CLp H' p o d gs m ks as (fun x => if x ∈ ks.take i then (fm x).erase c else fm x) L ch) ⟨none, rfl, G0, hq0, ?_⟩ (fun i σ H' _ z => ?_) ?_ ?_⟩
    · have e : (fun x => if x ∈ ks.take 0 then (fm x).erase c else fm x) = fm := by
        funext x
        rw [List.take_zero, if_neg (fun h => nomatch h)]
      rw [e]
      exact R0
    · obtain ⟨v2, _, _, z, _⟩ := z
      exact SqL.of z
    · rintro i x σ H1 hx ⟨v2, rfl, G, hq1, R1⟩
      obtain ⟨r, hri, rfl⟩ := map_of hx
      have hi := (List.getElem?_eq_some_iff.mp hri).1
      have hnot : r ∉ ks.take i := fun z => by
        obtain ⟨j, hj, e⟩ := List.mem_iff_getElem.mp z
        rw [List.length_take] at hj
        rw [List.getElem_take] at e
        have := nodup_at R.D.nk (List.getElem?_eq_getElem (show j < ks.length by omega)) (e ▸ hri)
        omega
      have etk : ks.take (i + 1) = ks.take i ++ [r] := by rw [List.take_add_one, hri]; rfl
      obtain ⟨j, a, hkj, haj, hla, hval⟩ := R1.D.at_ (List.mem_of_getElem? hri)
      have efr : (if r ∈ ks.take i then (fm r).erase c else fm r) = fm r := if_neg hnot
      rw [efr] at hla
      have efn : (fun x => if x = r then (fm r).erase c else (if x ∈ ks.take i then (fm x).erase c else fm x)) = (fun x => if x ∈ ks.take (i + 1) then (fm x).erase c else fm x) := by
        funext x
        rw [etk]
        by_cases hxr : x = r
        · subst hxr
          rw [if_pos rfl, if_pos (List.mem_append_right _ (List.mem_singleton.mpr rfl))]
        · rw [if_neg hxr]
          by_cases hl : x ∈ ks.take i
          · rw [if_pos hl, if_pos (List.mem_append_left _ hl)]
          · rw [if_neg hl, if_neg (fun z => (List.mem_append.mp z).elim hl fun z => hxr (List.mem_singleton.mp z))]
      obtain ⟨dx1, hob1⟩ := R1.ob
      have hget := R1.D.get hval
      refine ⟨_, rfl, _, rfl, p, CLp, dx1, _, _, rfl, hob1, TP.cl, TP.nC, lpf_d _ _ _ _ _ _, _, rfl, d, .ref a, rfl, hget, a, _, rfl, .inl (SqL.of hla), rfl, nats_flat _, _, rfl, ?_⟩
      rw [if_neg (by decide), inV_nat]
      have hfl := R.bd r
      by_cases hc : c ∈ fm r
      · refine iteTb (decide_eq_true hc) ?_
        obtain ⟨j2, e1, e2, e3⟩ := erase_at (fm r) c hc
        refine ⟨_, rfl, p, CLp, dx1, _, _, rfl, hob1, TP.cl, TP.nC, lpf_d _ _ _ _ _ _, _, rfl, d, .ref a, rfl, hget, .inl ⟨rfl, _, SqL.of hla⟩, _, rfl, a, (fm r).map fun n : Nat => (n : Int), (c : Int), j2, rfl, rfl, ?_, ?_, ?_, ?_⟩
        · rw [← nats_ints]
          exact hla
        · rw [List.getElem?_map, e1]
          rfl
        · intro i2 hi2 z
          rw [List.getElem?_map] at z
          cases e : (fm r)[i2]? with
          | none => rw [e] at z; cases z
          | some y =>
            rw [e] at z
            have : y = c := by
              have : (y : Int) = (c : Int) := Option.some.inj z
              omega
            exact e2 i2 hi2 (by rw [e, this])
        · have ee : ((fm r).map fun n : Nat => (n : Int)).eraseIdx j2 = ((fm r).erase c).map fun n : Nat => (n : Int) := by
            rw [← e3, erase_map]
          rw [ee, ← nats_ints]
          have R2 := R1.put hkj haj ((fm r).erase c) (Nat.le_trans (List.length_erase_le) hfl)
          rw [efn] at R2
          exact ⟨_, rfl, G.put (List.mem_of_getElem? haj), by rw [upd_ne (fun (z : q = a) => nqa (z ▸ List.mem_of_getElem? haj))]; exact hq1, R2⟩
      · refine iteFb (decide_eq_false hc) ?_
        have ee : (fun x => if x ∈ ks.take i then (fm x).erase c else fm x) = (fun x => if x ∈ ks.take (i + 1) then (fm x).erase c else fm x) := by
          rw [← efn]
          funext x
          by_cases hxr : x = r
          · subst hxr
            rw [if_pos rfl, List.erase_of_not_mem hc, if_neg hnot]
          · rw [if_neg hxr]
        rw [ee] at R1
        exact ⟨_, rfl, G, hq1, R1⟩
    · rintro σ H1 ⟨v2, rfl, G, hq1, R1⟩
      rw [List.length_map, List.take_length] at R1
      have ee : (fun x => if x ∈ ks then (fm x).erase c else fm x) = fun r => (fm r).erase c := by
        funext x
        by_cases h : x ∈ ks
        · rw [if_pos h]
        · rw [if_neg h, R.D.out x h]
          rfl
      rw [ee] at R1
      exact rpSet TP R1 rfl fun H2 kx R2 => k H2 ⟨fun b u e n1 n2 n3 => kx b u n1 (G.fp b u e n1 n2 n3), G.nw, G.sub⟩ R2
/-! ### Loop.clients_in -/
def spCi (C : Addr) : Sp := fun vs H Q _ => ∃ (p o d : Addr) (gs : List Int) (m : Nat) (ks : List Int) (as : List Addr) (f : Int → List Nat) (L : Option Int) (ch : Bool) (s : Int), vs = [.ref p, .int s] ∧ LoopAt C H p o d gs m ks as f L ch ∧
  ∀ q H', H q = none → Same H H' → H' q = some (.lst ((f (s % per gs m)).map nV)) → Q (.ref q) H'
theorem scCi : FnScope ["self", "slot"] ["self", "slot"] (defScope s_Loop_clients_in) := ⟨rfl, rfl, rfl, by decide +kernel, rfl, by decide +kernel, by decide +kernel⟩
theorem ok_ci {f C CLp : Addr} {fd : FuncData} (F : Fun K "clients_in" "Loop.clients_in" s_Loop_clients_in f fd) (T : Txt K mg C) (TP : TxtP K mg CLp) : FnOk P w K mg base CX0 1 f fd ["self", "slot"] (spCi CLp) := by
  refine F.ok scCi (fun vs H Q E h => ?_) (fun cdv A outer s H vs Q E hr h => ?_)
  · obtain ⟨p, o, d, gs, m, ks, as, f, L, ch, s, rfl, _⟩ := h
    rfl
  · obtain ⟨p, o, d, gs, m, ks, as, fm, L, ch, st, rfl, R, k⟩ := h
    have hu := hu_of hr
    refine ⟨_, (pss_cons (ps_if (pt_cmpR op_isN (pe_fld (pv 0) rfl) pe_non (nomark _)) (pss_one (ps_ret (pe_lst pa_nil))) pss_nil) (pss_one (ps_ret (pe_callTy call_list_of (by rfl) T.list (by decide +kernel) (pa_cons (pe_dget2 hu (pe_fld (pv 0) rfl) (pe_op op_mod (pv 1) (pe_fld (pv 0) rfl)) (pe_lst pa_nil) ⟨by rfl, by rfl, by rfl, by rfl⟩) pa_nil))))), ?_⟩
    obtain ⟨dx, hob⟩ := R.ob
    have hper := per_bd R.okG R.h1 R.h2
    have h1 := R.h1
    refine ⟨_, rfl, p, CLp, dx, _, _, rfl, hob, TP.cl, TP.nF, lpf_F _ _ _ _ _ _, rfl, _, rfl, iteFb (decide_eq_false fun e => nomatch e) ?_⟩
    refine ⟨_, rfl, p, CLp, dx, _, _, rfl, hob, TP.cl, TP.nC, lpf_d _ _ _ _ _ _, d, rfl, .inl ⟨_, .inl R.D.hd⟩, _, rfl, _, rfl, p, CLp, dx, _, _, rfl, hob, TP.cl, TP.nP, lpf_P _ _ _ _ _ _, _, _, rfl, rfl, (by show (0 : Int) < per gs m; omega), (by show 0 ≤ sizeLine; decide), fun l hl => ?_⟩
    have S1 := same_new (o := .lst []) hl
    have hl1 : (upd H l (.lst [])) l = some (.lst []) := upd_same
    have R1 := R.same S1
    generalize upd H l (.lst []) = H1 at S1 hl1 R1
    by_cases hm : st % per gs m ∈ ks
    · obtain ⟨j, a, hkj, haj, hla, hval⟩ := R1.D.at_ hm
      exact ⟨_, R1.D.get hval, a, _, rfl, .inl (SqL.of hla), fun q hq => k q _ (S1.free hq) (S1.trans (same_new hq)) upd_same⟩
    · refine ⟨none, .inl ⟨_, Sum.inl _, .inl R1.D.hd, rfl, (kvsOf_none hm).symm⟩, l, _, rfl, .inl (SqL.of hl1), fun q hq => k q _ (S1.free hq) (S1.trans (same_new hq)) ?_⟩
      rw [upd_same, R.D.out _ hm]
      rfl
end
end RS
/-! ### a list against the empty list; len in a comprehension's block -/
namespace L2
open PySem PySem.Spec PyProof.Rows
section
variable {X : Cx}
/-- a list, held against the empty list -/
def rNilB (K : PySem.W.Frag) (f : Bool → Bool) : R2 := fun x y H Q => ∃ a b xs, x = .ref a ∧ y = .ref b ∧ SqL K H a xs ∧ SqL K H b [] ∧ Q (.bl (f xs.isEmpty)) H
theorem op_eqNil (hu : X.A.units + 64 < cLine) : OpR X (compareOp .Eq) (rNilB X.K id) := by
  intro pins s σ H x y v u Q I rx ry h
  obtain ⟨a, b, xs, rfl, rfl, ha, hb, q⟩ := h
  cases xs with
  | nil => exact op_eqD hu pins s σ H _ _ v u Q I rx ry ⟨.list [], .list [], .lst ha .nil, .lst hb .nil, rfl, rfl, q⟩
  | cons z r =>
    cases rx
    cases ry
    obtain ⟨its, r1, h1, _⟩ := I.list ha
    obtain ⟨its2, r2, h2, _⟩ := I.list hb
    cases r2
    have e1 := r1.length
    refine SeqAt.eq_list_lengthsAt h1.isList h2.isList ?_ (by omega) ⟨.bl _, H, I, rfl, q⟩
    rw [List.size_toArray, ← e1]
    rfl
theorem op_neNil (hu : X.A.units + 64 < cLine) : OpR X (compareOp .NotEq) (rNilB X.K not) := by
  intro pins s σ H x y v u Q I rx ry h
  obtain ⟨a, b, xs, rfl, rfl, ha, hb, q⟩ := h
  cases xs with
  | nil => exact op_neD hu pins s σ H _ _ v u Q I rx ry ⟨.list [], .list [], .lst ha .nil, .lst hb .nil, rfl, rfl, q⟩
  | cons z r =>
    cases rx
    cases ry
    obtain ⟨its, r1, h1, _⟩ := I.list ha
    obtain ⟨its2, r2, h2, _⟩ := I.list hb
    cases r2
    have e1 := r1.length
    refine SeqAt.RcNeAt.lists_lengths h1.isList h2.isList ?_ (by omega) X.prog X.w _ _ ⟨.bl _, H, I, rfl, q⟩
    rw [List.size_toArray, ← e1]
    rfl
def rLenK (K : PySem.W.Frag) : List V → Hp → VK → Prop := fun xs H Q => ∃ p ys, xs = [V.ref p] ∧ (SqL K H p ys ∨ SqT K H p ys) ∧ Q (.int (ys.length : Int)) H
theorem pe_lenK {e : Expr} {te : TE} {p pos : Pos} (K : PySem.W.Frag) (hK : X.K = K) (hg : Gl X "len") (hm : X.mg "len" = none) (ha : PE X e te) (hs : starEach [e] X.env = (false, eval e X.env) :: starEach [] X.env := by rfl) : PE X (.Call (.Name "len" p) [e] [] pos) (tCB (rLenK K) (tCons te tNil)) := by
  subst hK
  exact pe_callB (r := rLenK X.K) call_len_seq hg hm (by decide +kernel) (pa_cons ha pa_nil hs) (he := hs)
end
end L2
namespace RS
open PySem L2
section
variable {P : Program} {w : World} {K : PySem.W.Frag} {mg : Str → Option Value} {base : Heap}
/-! ### Loop.lone_from -/
theorem pe_fldK {X : Cx} (K : PySem.W.Frag) (hK : X.K = K) {e : Expr} {ta : TE} {f : Str} {pos : Pos} (he : PE X e ta) (hb : attributeBase e f X.env (eval e X.env) = eval e X.env) : PE X (.Attribute e f pos) (tFld K ta f) := by
  subst hK
  exact pe_fld he hb
def late (L : Option Int) (s : Int) : Bool := match L with
  | none => false
  | some x => decide (x < s)
theorem tstLone {C p o d : Addr} {gs : List Int} {m : Nat} {ks : List Int} {as : List Addr} {f : Int → List Nat} {L : Option Int} {ch : Bool} {H : Hp} {σ : L2.St} {s : Int} {Q : Bool → Hp → Prop} (T : TxtP K mg C) (R : LoopAt C H p o d gs m ks as f L ch) (hi : σ[0]? = some (some (.ref p))) (hs : σ[1]? = some (some (.int s))) (z : Q (ch || late L s) H) :
    tOr (tB (tFld K (tVar 0) "_changed")) (tAnd (tTest (tOp (fun x y H Q => y = .non ∧ Q (.bl (!decide (x = .non))) H) (tFld K (tVar 0) "_lone") (tC .non))) (tTest (tOp (rI0 fun i j => .bl (decide (i < j))) (tFld K (tVar 0) "_lone") (tVar 1)))) σ H Q := by
  dsimp only [tOr, tB, tAnd, tTest, tOp]
  refine rpH T R hi ⟨ch, rfl, ?_⟩
  cases ch with
  | true => exact iteT z
  | false =>
    refine iteF ?_
    refine rpL T R hi ⟨rfl, _, rfl, ?_⟩
    cases L with
    | none => exact iteF z
    | some x =>
      refine iteT ?_
      refine rpL T R hi ⟨_, hs, _, _, rfl, rfl, _, rfl, ?_⟩
      exact z
theorem lone_step {f : Int → List Nat} {P q s : Int} {L : Option Int} (h : IsLone f P q L) (hq : q ≤ s) (hl : late L s = false) : IsLone f P s L := by
  cases L with
  | none => exact fun t ht => h t (by omega)
  | some x =>
    have hx : s ≤ x := by
      have := of_decide_eq_false hl
      omega
    exact ⟨hx, h.2.1, fun t h1 h2 => h.2.2 t (by omega) h2⟩
theorem lone_least {f : Int → List Nat} {P s : Int} {ks : List Int} {v : V} (hP : 0 < P) (kb : ∀ r ∈ ks, 0 ≤ r ∧ r < P) (out : ∀ r, r ∉ ks → f r = []) (h : leastV ((ks.filter fun r => decide ((f r).length = 1)).map fun r => s + (r - s) % P) v) : ∃ L, v = optV L ∧ IsLone f P s L := by
  have hin : ∀ t, s ≤ t → (f (t % P)).length = 1 → t % P ∈ (ks.filter fun r => decide ((f r).length = 1)) ∧ s + (t % P - s) % P ≤ t := fun t ht h1 => by
    refine ⟨List.mem_filter.mpr ⟨Classical.byContradiction fun z => ?_, decide_eq_true h1⟩, ?_⟩
    · rw [out _ z] at h1
      cases h1
    · have e : (t % P - s) % P = (t - s) % P := by rw [Int.emod_sub_emod]
      rw [e]
      have a1 := Int.mul_ediv_add_emod (t - s) P
      have a2 := Int.mul_nonneg (show 0 ≤ P by omega) (Int.ediv_nonneg (show 0 ≤ t - s by omega) (show 0 ≤ P by omega))
      omega
  rcases h with ⟨e, rfl⟩ | ⟨x, hx, hl, rfl⟩
  · refine ⟨none, rfl, fun t ht h1 => ?_⟩
    have := (hin t ht h1).1
    rw [List.map_eq_nil_iff.mp e] at this
    cases this
  · obtain ⟨r, hr, rfl⟩ := List.mem_map.mp hx
    obtain ⟨hr1, hr2⟩ := List.mem_filter.mp hr
    have hrb := kb r hr1
    have em : (s + (r - s) % P) % P = r := by
      rw [Int.add_emod_emod, show s + (r - s) = r by omega, Int.emod_eq_of_lt hrb.1 hrb.2]
    have h0 := Int.emod_nonneg (r - s) (show P ≠ 0 by omega)
    refine ⟨some (s + (r - s) % P), rfl, by omega, by rw [em]; exact of_decide_eq_true hr2, fun t h1 h2 h3 => ?_⟩
    have h4 := hin t h1 h3
    have := hl _ (List.mem_map.mpr ⟨t % P, h4.1, rfl⟩)
    omega
def spLf (C : Addr) : Sp := fun vs H Q _ => ∃ (p o d : Addr) (gs : List Int) (m : Nat) (ks : List Int) (as : List Addr) (f : Int → List Nat) (L : Option Int) (ch : Bool) (s : Int), vs = [.ref p, .int s] ∧ LoopAt C H p o d gs m ks as f L ch ∧ ks.length ≤ 100000 ∧ (ch = false → ∃ q, q ≤ s ∧ IsLone f (per gs m) q L) ∧
  ∀ L' H', Kx p H H' → LoopAt C H' p o d gs m ks as f L' false → IsLone f (per gs m) s L' → Q (optV L') H'
def lfN : List Str := ["self", "slot", "lone", "residue"]
theorem scLf : FnScope lfN ["self", "slot"] (defScope s_Loop_lone_from) := ⟨rfl, rfl, rfl, by decide +kernel, rfl, by decide +kernel, by decide +kernel⟩
theorem ok_lf {f C CLp : Addr} {fd : FuncData} (F : Fun K "lone_from" "Loop.lone_from" s_Loop_lone_from f fd) (T : Txt K mg C) (TP : TxtP K mg CLp) (mMin : mg "min" = none) : FnOk P w K mg base CX0 1 f fd ["self", "slot"] (spLf CLp) := by
  refine F.ok scLf (fun vs H Q E h => ?_) (fun cdv A outer s H vs Q E hr h => ?_)
  · obtain ⟨p, o, d, gs, m, ks, as, f, L, ch, s, rfl, _⟩ := h
    rfl
  · obtain ⟨p, o, d, gs, m, ks, as, fm, L, ch, st, rfl, R, hkl, hv, k⟩ := h
    have hu := hu_of hr
    refine ⟨_, (pss_cons (ps_if (PW.pt (pw_or (pt_val (pe_fld (pv 0) rfl)) (pw_or1 (PW.pt (pw_and (pt_cmpR op_notN (pe_fld (pv 0) rfl) pe_non (nomark _)) (pw_and1 (pt_cmpR op_lt (pe_fld (pv 0) rfl) (pv 1) (nomark _)))))))) (pss_cons (ps_lock (ps_setLc (i := 2) (own := [("residue", 3)]) (g := gName 3) (by rfl) scLf.nd rfl rfl (sw_true rfl rfl rfl (by decide +kernel)) (pi_keys (pe_fld (pv 0) rfl)) (blkOk_by (own := [("residue", 3)]) (N := lfN) (sc := (defScope s_Loop_lone_from)) (by decide +kernel)) (fun _ _ _ _ _ => (pg_name (i := 3) scLf.nd rfl (Or.inl rfl))) (fun _ _ _ _ _ => pts_one (pt_cmpR op_eq (pe_lenK K (by rfl) (by rfl) T.len (pe_dget hu (pe_fldK K (by rfl) (pv 0) rfl) (pv 3) (fun _ _ => rfl))) pe_int (nomark _))) (fun _ _ _ _ _ => (pv 3)))) (pss_cons (ps_fld (pv 0) (pe_callBK (cr_minD rfl) (by rfl) mMin (by decide +kernel) (pa_cons (pe_lc (own := [("residue", 3)]) (g := gName 3) (tt := tYes) rfl scLf.nd (pi_list (pv 2)) (blkOk_by (own := [("residue", 3)]) (N := lfN) (sc := (defScope s_Loop_lone_from)) (by decide +kernel)) (fun _ _ _ _ _ => (pg_name (i := 3) scLf.nd rfl (Or.inl rfl))) (fun _ _ _ _ _ => pts_nil) (fun _ _ _ _ _ => (pe_op op_add (pv 1) (pe_op op_mod (pe_op op_sub (pv 3) (pv 1)) (pe_fldK K (by rfl) (pv 0) rfl))))) pa_nil) (pk_cons pe_non pk_nil)) rfl) (pss_one (ps_fld (pv 0) pe_bl rfl)))) pss_nil) (pss_one (ps_ret (pe_fld (pv 0) rfl)))), ?_⟩
    have hper := per_bd R.okG R.h1 R.h2
    have h1 := R.h1
    refine tstLone TP R rfl rfl ?_
    by_cases hb : (ch || late L st) = true
    case neg =>
      have hb := Bool.eq_false_iff.mpr hb
      rw [hb]
      obtain ⟨hb1, hb2⟩ := Bool.or_eq_false_iff.mp hb
      subst hb1
      obtain ⟨q, hq, hl⟩ := hv rfl
      exact iteF (rpL TP R rfl (k L H (Kx.refl p H) R (lone_step hl hq hb2)))
    rw [hb]
    refine iteT ?_
    -- reckoned anew
    obtain ⟨dx, hob⟩ := R.ob
    have np := R.npd
    refine ⟨d, .dK (kvsOf ks as), R.D.hd, trivial, fun od => ?_⟩
    have hdL : (upd H d (.frz od (.dK (kvsOf ks as)))) d = some (.frz od (.dK (kvsOf ks as))) := upd_same
    have kpL : ∀ b u, b ≠ d → H b = some u → (upd H d (.frz od (.dK (kvsOf ks as)))) b = some u := fun b u nb e => by rw [upd_ne nb]; exact e
    have bkL : ∀ b, b ≠ d → (upd H d (.frz od (.dK (kvsOf ks as)))) b = H b := fun b nb => upd_ne nb
    generalize upd H d (.frz od (.dK (kvsOf ks as))) = HL at hdL kpL bkL
    have hobL := kpL _ _ np.1.symm hob
    refine ⟨_, rfl, p, CLp, dx, _, _, rfl, hobL, TP.cl, TP.nC, lpf_d _ _ _ _ _ _, d, od, rfl, .inl ⟨kvsOf ks as, hdL, fun D hD => lc_it (walk_keys (d := d) (o := od) (kvs := kvsOf ks as)) (fun i H' => Same HL H' ∧ H' D = some (.lst (((ks.take i).filter fun r => decide ((fm r).length = 1)).map V.int))) ⟨same_new hD, upd_same⟩ (fun i H' _ q => q.1 _ _ hdL) (fun i x H4 H5 hi q hy => ?_) (fun H4 q => ?_)⟩⟩
    · obtain ⟨S4, hD4⟩ := q
      obtain ⟨rfl, kk, v, hkk, rfl⟩ := hy
      have hik : i < ks.length := by rw [← kvsOf_len R.D.len]; exact hi
      have hri : ks[i]? = some ks[i] := List.getElem?_eq_getElem hik
      have hai : as[i]? = some (as[i]'(by rw [R.D.len]; exact hik)) := List.getElem?_eq_getElem _
      generalize ks[i] = r at hri
      generalize as[i]'(by rw [R.D.len]; exact hik) = a at hai
      have ekk : (kvsOf ks as)[i]? = some ((Sum.inl r : Key), V.ref a) := by
        unfold kvsOf
        rw [List.getElem?_zipWith, hri, hai]
      rw [ekk] at hkk
      cases hkk
      have hla := R.D.ls i r a hri hai
      have nad : a ≠ d := fun z => R.D.nd (z ▸ List.mem_of_getElem? hai)
      have hla4 := S4 _ _ (kpL _ _ nad hla)
      have hval := kvsOf_at R.D.nk hri hai
      refine ⟨rfl, _, rfl, p, CLp, dx, _, _, rfl, S4 _ _ hobL, TP.cl, TP.nC, lpf_d _ _ _ _ _ _, _, rfl, d, .ref a, rfl, .inl ⟨_, Sum.inl r, .inr ⟨od, S4 _ _ hdL⟩, rfl, hval.symm⟩, a, _, rfl, .inl (SqL.of hla4), rfl, _, rfl, ?_⟩
      rw [List.take_add_one, hri, List.filter_append, List.map_append]
      rw [List.length_map]
      by_cases h1l : (fm r).length = 1
      · refine iteTb (decide_eq_true (by rw [h1l]; rfl)) ?_
        refine ⟨_, rfl, _, hD4, ?_, same_app hD S4, ?_⟩
        · rw [List.length_map]
          have h3 := (List.filter_sublist (p := fun r => decide ((fm r).length = 1)) (l := ks.take i)).length_le
          rw [List.length_take] at h3
          exact small_line (by omega)
        · rw [upd_same]
          show _ = some (HO.lst (_ ++ (List.filter _ [r]).map V.int))
          rw [show List.filter (fun r => decide ((fm r).length = 1)) [r] = [r] by simp [h1l]]
          rfl
      · refine iteFb (decide_eq_false (fun z => h1l (by have := V.int.inj z; omega))) ⟨S4, ?_⟩
        show _ = some (HO.lst (_ ++ (List.filter _ [r]).map V.int))
        rw [show List.filter (fun r => decide ((fm r).length = 1)) [r] = [] by simp [h1l], List.map_nil, List.append_nil]
        exact hD4
    obtain ⟨S4, hD4⟩ := q
    rw [kvsOf_len R.D.len, List.take_length] at hD4
    refine ⟨S4 _ _ hdL, ?_⟩
    have nDd : D ≠ d := fun z => by rw [z, hdL] at hD; cases hD
    have S5 : Same H (upd H4 d (.dK (kvsOf ks as))) := fun b u e => by
      by_cases nb : b = d
      · subst nb
        rw [upd_same, ← R.D.hd, e]
      · rw [upd_ne nb]
        exact S4 _ _ (kpL _ _ nb e)
    have hD5 : (upd H4 d (.dK (kvsOf ks as))) D = some (.lst ((ks.filter fun r => decide ((fm r).length = 1)).map V.int)) := by rw [upd_ne nDd]; exact hD4
    generalize upd H4 d (.dK (kvsOf ks as)) = H5 at S5 hD5
    have R5 := R.same S5
    obtain ⟨dx5, hob5⟩ := R5.ob
    generalize hfl : (ks.filter fun r => decide ((fm r).length = 1)) = ls at hD5
    have hll : ls.length ≤ ks.length := by rw [← hfl]; exact List.filter_sublist.length_le
    refine ⟨_, rfl, D, rfl, ⟨_, SqL.of hD5⟩, fun D2 hD2 => lc_list (a := D) (xs := ls.map V.int) (fun i H' => Same H5 H' ∧ H' D2 = some (.lst (((ls.take i).map fun r => st + (r - st) % per gs m).map V.int))) ⟨same_new hD2, upd_same⟩ (fun i H' _ q => SqL.of (q.1 _ _ hD5)) (fun i x H6 hx q => ?_) (fun H6 q => ?_)⟩
    · obtain ⟨r, hr, rfl⟩ := map_of hx
      have hi := (List.getElem?_eq_some_iff.mp hr).1
      refine ⟨rfl, ?_⟩
      refine yes_t (iteT ?_)
      refine ⟨_, rfl, _, rfl, _, rfl, _, _, rfl, rfl, _, rfl, p, CLp, dx5, _, _, rfl, q.1 _ _ hob5, TP.cl, TP.nP, lpf_P _ _ _ _ _ _, _, _, rfl, rfl, (by show (0 : Int) < per gs m; omega), _, _, rfl, rfl, _, q.2, ?_, same_app hD2 q.1, ?_⟩
      · rw [List.length_map, List.length_map, List.length_take]
        exact small_line (by omega)
      · rw [upd_same, List.take_add_one, hr, List.map_append, List.map_append]
        rfl
    obtain ⟨S6, hD6⟩ := q
    rw [List.length_map, List.take_length] at hD6
    refine ⟨D2, _, rfl, rfl, SqL.of hD6, fun v hv => ?_⟩
    rw [← hfl] at hv
    obtain ⟨L2, rfl, hL2⟩ := lone_least (by omega) R.kb R.D.out hv
    have R6 := R5.same S6
    obtain ⟨dx6, hob6⟩ := R6.ob
    refine ⟨_, rfl, p, CLp, dx6, _, rfl, hob6, TP.cl, TP.nL, (by show 6 < 1000; decide), ?_⟩
    rw [lpf_sL]
    have R7 := R6.obj (dx := dx6) (L2 := L2) (c2 := ch)
    have kx7 : Kx p H (upd H6 p (.ins CLp dx6 (lpf (.int (per gs m)) (.int ((gs.length - m : Nat) : Int)) o d (optV L2) ch))) := (Kx.of (S5.trans S6)).trans Kx.upd
    generalize upd H6 p (.ins CLp dx6 (lpf (.int (per gs m)) (.int ((gs.length - m : Nat) : Int)) o d (optV L2) ch)) = H7 at R7 kx7
    refine rpSet TP R7 rfl fun H8 kx8 R8 => ?_
    exact rpL TP R8 rfl (k L2 H8 (kx7.trans kx8) R8 hL2)
end
end RS
namespace RS
open PySem L2
/-! ### the loop of a rule with any tail -/
theorem FnOk.two {P : Program} {w : World} {K : PySem.W.Frag} {mg : Str → Option Value} {base : Heap} {CX : CXT} {k : Nat} {f : Addr} {fd : FuncData} {ps : List Str} {sp sp' : Sp} (F : FnOk P w K mg base CX k f fd ps sp) (G : FnOk P w K mg base CX k f fd ps sp') :
    FnOk P w K mg base CX k f fd ps (fun vs H Q E => sp vs H Q E ∨ sp' vs H Q E) :=
  ⟨fun vs H Q E h => h.elim (F.len vs H Q E) (G.len vs H Q E), fun A outer s H args us vs Q E a b c d h => h.elim (F.run A outer s H args us vs Q E a b c d) (G.run A outer s H args us vs Q E a b c d)⟩
def repO (gs : List Int) (tl : Tl) : List Int := match tl with
  | .rep m => repOffs gs m
  | _ => []
theorem herF_erase {T : List (List Int)} {M : List Nat} (hn : M.Nodup) (c : Nat) : (fun r => (hereF T M r).erase c) = hereF T (M.filter (· ≠ c)) := by
  funext r
  unfold hereF
  rw [List.Nodup.erase_eq_filter (List.Pairwise.filter _ hn), List.filter_filter, List.filter_filter]
  exact List.filter_congr fun x _ => by
    rw [Bool.and_comm]
    congr 1
    by_cases h : x = c <;> simp [h]
theorem herF_more {gs : List Int} {m : Nat} {bs : List Int} {M : List Nat} {c : Nat} (h : c < bs.length) : entF (hereF (tabOf gs m bs) M) (resid gs m (bs.getD c 0)) c = hereF (tabOf gs m bs) (M ++ [c]) := by
  funext r
  have e : (tabOf gs m bs).getD c [] = resid gs m (bs.getD c 0) := by
    unfold tabOf
    rw [List.getD_eq_getElem?_getD, List.getElem?_map, List.getElem?_eq_getElem h, List.getD_eq_getElem?_getD, List.getElem?_eq_getElem h]
    rfl
  unfold entF hereF
  rw [List.filter_append]
  by_cases hr : r ∈ resid gs m (bs.getD c 0)
  · rw [if_pos hr]
    congr 1
    rw [List.filter_cons, if_pos (by rw [e]; exact decide_eq_true hr)]
    rfl
  · rw [if_neg hr]
    have : List.filter (fun c => decide (r ∈ (tabOf gs m bs).getD c [])) [c] = [] := by
      rw [List.filter_cons, if_neg (by rw [e]; simpa using hr)]
      rfl
    rw [this, List.append_nil]
/-- the loop of a rule whose attempts do not repeat -/
structure LoopN (C : Addr) (H : Hp) (p o d : Addr) (ch : Bool) : Prop where
  ob : ∃ dx, H p = some (.ins C dx (lpf .non .non o d .non ch))
  ho : H o = some (.lst [])
  hd : H d = some (.dK [])
theorem LoopN.same {C : Addr} {H H' : Hp} {p o d : Addr} {ch : Bool} (R : LoopN C H p o d ch) (S : Same H H') : LoopN C H' p o d ch := ⟨let ⟨dx, e⟩ := R.ob; ⟨dx, S _ _ e⟩, S _ _ R.ho, S _ _ R.hd⟩
theorem LoopN.np {C : Addr} {H : Hp} {p o d : Addr} {ch : Bool} (R : LoopN C H p o d ch) : d ≠ p ∧ o ≠ p := by
  obtain ⟨dx, e⟩ := R.ob
  exact ⟨ne_of R.hd e (by intro z; cases z), ne_of R.ho e (by intro z; cases z)⟩
def LoopX (C : Addr) (H : Hp) (p o d : Addr) (gs : List Int) (tl : Tl) (bs : List Int) (M : List Nat) (ks : List Int) (as : List Addr) (L : Option Int) (ch : Bool) : Prop := match tl with
  | .rep m => LoopAt C H p o d gs m ks as (hereF (tabOf gs m bs) M) L ch
  | _ => LoopN C H p o d ch ∧ ks = [] ∧ as = [] ∧ L = none
theorem LoopX.same {C : Addr} {H H' : Hp} {p o d : Addr} {gs : List Int} {tl : Tl} {bs : List Int} {M : List Nat} {ks : List Int} {as : List Addr} {L : Option Int} {ch : Bool} (R : LoopX C H p o d gs tl bs M ks as L ch) (S : Same H H') : LoopX C H' p o d gs tl bs M ks as L ch := by
  cases tl with
  | rep m => exact LoopAt.same R S
  | fin => exact ⟨R.1.same S, R.2⟩
  | times b => exact ⟨R.1.same S, R.2⟩
section
variable {P : Program} {w : World} {K : PySem.W.Frag} {mg : Str → Option Value} {base : Heap}
def spRON (C : Addr) : Sp := fun vs H Q _ => ∃ (p g t o : Addr) (gs : List Int) (tl : Tl), vs = [.ref p] ∧ RuleAt C H p g t o gs tl ∧ (∀ m, tl ≠ .rep m) ∧ ∀ q, H q = none → Q (.ref q) (upd H q (.lst []))
def spROX (C : Addr) : Sp := fun vs H Q _ => ∃ (p g t o : Addr) (gs : List Int) (tl : Tl), vs = [.ref p] ∧ RuleAt C H p g t o gs tl ∧ ∀ q H', H q = none → Same H H' → H' q = some (.lst ((repO gs tl).map V.int)) → Q (.ref q) H'
theorem frV_non {gs : List Int} {tl : Tl} (h : ∀ m, tl ≠ .rep m) : frV gs tl = .non ∧ perV gs tl = .non ∧ repO gs tl = [] := by
  cases tl with
  | rep m => exact absurd rfl (h m)
  | fin => exact ⟨rfl, rfl, rfl⟩
  | times b => exact ⟨rfl, rfl, rfl⟩
theorem ok_roN {f C fL fR : Addr} {fd fdL fdR : FuncData} (F : Fun K "repeating_offsets" "repeating_offsets" s_repeating_offsets f fd) (T : Txt K mg C) (GL : FnOk P w K mg base CX0 2 fL fdL ["rule"] (spLO C)) (bL : Binds K fdL ["rule"] []) (mL : mg "listed_offsets" = some (.ref fL)) (kL : PySem.W.keepIn K (.ref fL) = true)
    (GR : FnOk P w K mg base CX0 1 fR fdR ["self"] (spFRA C)) (bR : Binds K fdR ["self"] []) (mR : Meth K C "first_repeating" fR) : FnOk P w K mg base CX0 3 f fd ["rule"] (spRON C) := by
  refine F.ok scRO (fun vs H Q E h => ?_) (fun cdv A outer s H vs Q E hr h => ?_)
  · obtain ⟨p, g, t, o, gs, tl, rfl, _⟩ := h
    rfl
  · obtain ⟨p, g, t, o, gs, tl, rfl, R, nr, k⟩ := h
    have hr1 := hr.mono (show 1 ≤ 2 by decide)
    refine ⟨_, (pss_cons (ps_if (pt_cmpR op_isN (pe_meth0 (pv 0) T.cl mR GR hr1 bR .nil pass0) pe_non (nomark _)) (pss_one (ps_ret (pe_lst pa_nil))) pss_nil) (pss_one (ps_ret (pe_slice sl_list (pe_call GL hr rfl mL kL bL .nil pass0 (pa_cons (pv 0) pa_nil)) (po_some (pe_meth0 (pv 0) T.cl mR GR hr1 bR .nil pass0)) (po_some (pe_un un_neg pe_int)))))), ?_⟩
    obtain ⟨dx, hob⟩ := R.ob
    refine ⟨_, rfl, p, dx, _, rfl, hob, flds_no _ _ _ (by decide +kernel) (by decide +kernel) (by decide +kernel), p, g, t, o, gs, tl, rfl, R, ?_⟩
    rw [(frV_non nr).1]
    exact ⟨rfl, _, rfl, iteTb rfl ⟨(by show 0 ≤ sizeLine; decide), fun q hq => k q hq⟩⟩
theorem ok_roX {f C fL fR : Addr} {fd fdL fdR : FuncData} (F : Fun K "repeating_offsets" "repeating_offsets" s_repeating_offsets f fd) (T : Txt K mg C) (GL : FnOk P w K mg base CX0 2 fL fdL ["rule"] (spLO C)) (bL : Binds K fdL ["rule"] []) (mL : mg "listed_offsets" = some (.ref fL)) (kL : PySem.W.keepIn K (.ref fL) = true)
    (GR : FnOk P w K mg base CX0 1 fR fdR ["self"] (spFR C)) (GA : FnOk P w K mg base CX0 1 fR fdR ["self"] (spFRA C)) (bR : Binds K fdR ["self"] []) (mR : Meth K C "first_repeating" fR) : FnOk P w K mg base CX0 3 f fd ["rule"] (spROX C) :=
  (FnOk.two (ok_ro F T GL bL mL kL GR bR mR) (ok_roN F T GL bL mL kL GA bR mR)).imp (fun vs H Q E h => by
    obtain ⟨p, g, t, o, gs, tl, rfl, R, k⟩ := h
    cases tl with
    | rep m => exact .inl ⟨p, g, t, o, gs, m, rfl, R, k⟩
    | fin => exact .inr ⟨p, g, t, o, gs, .fin, rfl, R, (fun m e => nomatch e), fun q hq => k q _ hq (same_new hq) upd_same⟩
    | times b => exact .inr ⟨p, g, t, o, gs, .times b, rfl, R, (fun m e => nomatch e), fun q hq => k q _ hq (same_new hq) upd_same⟩)
/-! ### Loop.__init__ -/
def spLpX (C CLp : Addr) : Sp := fun vs H Q _ => ∃ (p dx r g t o' : Addr) (gs : List Int) (tl : Tl), vs = [.ref p, .ref r] ∧ H p = some (.ins CLp dx []) ∧ RuleAt C H r g t o' gs tl ∧
  ∀ (o d : Addr) (H' : Hp), H o = none → H d = none → (∀ b u, H b = some u → b ≠ p → H' b = some u) → H' p = some (.ins CLp dx (lpf (perV gs tl) (frV gs tl) o d .non false)) → H' o = some (.lst ((repO gs tl).map V.int)) → H' d = some (.dK []) → Q .non H'
theorem scLpX : FnScope ["self", "rule"] ["self", "rule"] (defScope s_Loop_ddinitdd) := ⟨rfl, rfl, rfl, by decide +kernel, rfl, by decide +kernel, by decide +kernel⟩
theorem ok_lpX {f C CLp fP fF fO : Addr} {fd fdP fdF fdO : FuncData} (F : Fun K "__init__" "Loop.__init__" s_Loop_ddinitdd f fd) (T : Txt K mg C) (TP : TxtP K mg CLp) (GP : FnOk P w K mg base CX0 2 fP fdP ["self"] (spPer C)) (bP : Binds K fdP ["self"] []) (mP : Meth K C "period" fP)
    (GF : FnOk P w K mg base CX0 1 fF fdF ["self"] (spFRA C)) (bF : Binds K fdF ["self"] []) (mF : Meth K C "first_repeating" fF) (GO : FnOk P w K mg base CX0 3 fO fdO ["rule"] (spROX C)) (bO : Binds K fdO ["rule"] []) (mO : mg "repeating_offsets" = some (.ref fO)) (kO : PySem.W.keepIn K (.ref fO) = true) : FnOk P w K mg base CX0 4 f fd ["self", "rule"] (spLpX C CLp) := by
  refine F.ok scLpX (fun vs H Q E h => ?_) (fun cdv A outer s H vs Q E hr h => ?_)
  · obtain ⟨p, dx, r, g, t, o', gs, tl, rfl, _⟩ := h
    rfl
  · obtain ⟨p, dx, r, g, t, o', gs, tl, rfl, hp, R, k⟩ := h
    have hr1 := hr.mono (show 1 ≤ 3 by decide)
    have hr2 := hr.mono (show 2 ≤ 3 by decide)
    refine ⟨_, (pss_cons (ps_fld (pv 0) (pe_meth0 (pv 1) T.cl mP GP hr2 bP .nil pass0) rfl) (pss_cons (ps_fld (pv 0) (pe_meth0 (pv 1) T.cl mF GF hr1 bF .nil pass0) rfl) (pss_cons (ps_fld (pv 0) (pe_call GO hr rfl mO kO bO .nil pass0 (pa_cons (pv 1) pa_nil)) rfl) (pss_cons (ps_fld (pv 0) pe_dnewK rfl) (pss_cons (ps_fld (pv 0) pe_non rfl) (pss_one (ps_fld (pv 0) pe_bl rfl))))))), ?_⟩
    obtain ⟨dxr, hob⟩ := R.ob
    have nrp : r ≠ p := ne_of hob hp (by intro z; injection z with z1 z2 z3; exact flds_cons g t o' z3)
    refine ⟨_, rfl, r, dxr, _, rfl, hob, flds_no _ _ _ (by decide +kernel) (by decide +kernel) (by decide +kernel), r, g, t, o', gs, tl, rfl, R, ?_⟩
    refine ⟨_, rfl, p, CLp, dx, _, rfl, hp, TP.cl, TP.nP, (by show 0 < 1000; decide), ?_⟩
    have R1 := R.offx (u := .ins CLp dx (putF "_period" (perV gs tl) [])) ⟨_, _, _, hp⟩ nrp
    have hp1 := upd_same (H := H) (a := p) (o := .ins CLp dx (putF "_period" (perV gs tl) []))
    have kp1 : ∀ b u, H b = some u → b ≠ p → (upd H p (.ins CLp dx (putF "_period" (perV gs tl) []))) b = some u := fun b u e nb => by rw [upd_ne nb]; exact e
    have nn1 : ∀ b, (upd H p (.ins CLp dx (putF "_period" (perV gs tl) []))) b = none → H b = none := fun b hb => by
      by_cases e : b = p
      · subst e
        rw [hp1] at hb
        cases hb
      · rw [upd_ne e] at hb
        exact hb
    generalize upd H p (.ins CLp dx (putF "_period" (perV gs tl) [])) = H1 at R1 hp1 kp1 nn1
    obtain ⟨dxr1, hob1⟩ := R1.ob
    refine ⟨_, rfl, r, dxr1, _, rfl, hob1, flds_no _ _ _ (by decide +kernel) (by decide +kernel) (by decide +kernel), r, g, t, o', gs, tl, rfl, R1, ?_⟩
    refine ⟨_, rfl, p, CLp, dx, _, rfl, hp1, TP.cl, TP.nF, (by show 1 < 1000; decide), ?_⟩
    have R2 := R1.offx (u := .ins CLp dx (putF "_first" (frV gs tl) (putF "_period" (perV gs tl) []))) ⟨_, _, _, hp1⟩ nrp
    have hp2 := upd_same (H := H1) (a := p) (o := .ins CLp dx (putF "_first" (frV gs tl) (putF "_period" (perV gs tl) [])))
    have kp2 : ∀ b u, H1 b = some u → b ≠ p → (upd H1 p (.ins CLp dx (putF "_first" (frV gs tl) (putF "_period" (perV gs tl) [])))) b = some u := fun b u e nb => by rw [upd_ne nb]; exact e
    have nn2 : ∀ b, (upd H1 p (.ins CLp dx (putF "_first" (frV gs tl) (putF "_period" (perV gs tl) [])))) b = none → H1 b = none := fun b hb => by
      by_cases e : b = p
      · subst e
        rw [hp2] at hb
        cases hb
      · rw [upd_ne e] at hb
        exact hb
    generalize upd H1 p (.ins CLp dx (putF "_first" (frV gs tl) (putF "_period" (perV gs tl) []))) = H2 at R2 hp2 kp2 nn2
    refine ⟨_, rfl, r, g, t, o', gs, tl, rfl, R2, fun q H3 hq S3 hq3 => ?_⟩
    have hp3 := S3 _ _ hp2
    have npq : p ≠ q := ne_of_none hp2 hq
    refine ⟨_, rfl, p, CLp, dx, _, rfl, hp3, TP.cl, TP.nO, (by show 2 < 1000; decide), ?_⟩
    have hp4 := upd_same (H := H3) (a := p) (o := .ins CLp dx (putF "_offsets" (.ref q) (putF "_first" (frV gs tl) (putF "_period" (perV gs tl) []))))
    have kp4 : ∀ b u, H3 b = some u → b ≠ p → (upd H3 p (.ins CLp dx (putF "_offsets" (.ref q) (putF "_first" (frV gs tl) (putF "_period" (perV gs tl) []))))) b = some u := fun b u e nb => by rw [upd_ne nb]; exact e
    have nn4 : ∀ b, (upd H3 p (.ins CLp dx (putF "_offsets" (.ref q) (putF "_first" (frV gs tl) (putF "_period" (perV gs tl) []))))) b = none → H3 b = none := fun b hb => by
      by_cases e : b = p
      · subst e
        rw [hp4] at hb
        cases hb
      · rw [upd_ne e] at hb
        exact hb
    generalize upd H3 p (.ins CLp dx (putF "_offsets" (.ref q) (putF "_first" (frV gs tl) (putF "_period" (perV gs tl) [])))) = H4 at hp4 kp4 nn4
    have hq4 := kp4 _ _ hq3 npq.symm
    refine fun d hd => ?_
    have npd : p ≠ d := ne_of_none hp4 hd
    have nqd : q ≠ d := ne_of_none hq4 hd
    refine ⟨_, rfl, p, CLp, dx, _, rfl, (by rw [upd_ne npd]; exact hp4), TP.cl, TP.nC, (by show 3 < 1000; decide), ?_⟩
    refine ⟨_, rfl, p, CLp, dx, _, rfl, upd_same, TP.cl, TP.nL, (by show 4 < 1000; decide), ?_⟩
    refine ⟨_, rfl, p, CLp, dx, _, rfl, upd_same, TP.cl, TP.nH, (by show 5 < 1000; decide), ?_⟩
    have ef : putF "_changed" (.bl false) (putF "_lone" V.non (putF "_clients" (.ref d) (putF "_offsets" (.ref q) (putF "_first" (frV gs tl) (putF "_period" (perV gs tl) []))))) = lpf (perV gs tl) (frV gs tl) q d .non false := by
      show putF "_changed" _ (putF "_lone" _ (putF "_clients" _ (putF "_offsets" _ (putF "_first" _ [(("_period" : Str), perV gs tl)])))) = _
      rw [pfn (f := "_first") (by decide +kernel)]
      show putF "_changed" _ (putF "_lone" _ (putF "_clients" _ (putF "_offsets" _ [(("_period" : Str), perV gs tl), ("_first", _)]))) = _
      rw [pfn (f := "_offsets") (by decide +kernel), pfn (f := "_offsets") (by decide +kernel)]
      show putF "_changed" _ (putF "_lone" _ (putF "_clients" _ [(("_period" : Str), perV gs tl), ("_first", _), ("_offsets", _)])) = _
      rw [pfn (f := "_clients") (by decide +kernel), pfn (f := "_clients") (by decide +kernel), pfn (f := "_clients") (by decide +kernel)]
      show putF "_changed" _ (putF "_lone" _ [(("_period" : Str), perV gs tl), ("_first", _), ("_offsets", _), ("_clients", _)]) = _
      rw [pfn (f := "_lone") (by decide +kernel), pfn (f := "_lone") (by decide +kernel), pfn (f := "_lone") (by decide +kernel), pfn (f := "_lone") (by decide +kernel)]
      show putF "_changed" _ [(("_period" : Str), perV gs tl), ("_first", _), ("_offsets", _), ("_clients", _), ("_lone", _)] = _
      rw [pfn (f := "_changed") (by decide +kernel), pfn (f := "_changed") (by decide +kernel), pfn (f := "_changed") (by decide +kernel), pfn (f := "_changed") (by decide +kernel), pfn (f := "_changed") (by decide +kernel)]
      rfl
    rw [ef]
    refine k q d _ (nn1 _ (nn2 _ hq)) (nn1 _ (nn2 _ (S3.free (nn4 _ hd)))) (fun b u e nb => ?_) upd_same ?_ ?_
    · rw [upd_ne nb, upd_ne nb, upd_ne nb]
      have e4 := kp4 _ _ (S3 _ _ (kp2 _ _ (kp1 _ _ e nb) nb)) nb
      rw [upd_ne (ne_of_none e4 hd)]
      exact e4
    · rw [upd_ne npq.symm, upd_ne npq.symm, upd_ne npq.symm, upd_ne nqd]
      exact hq4
    · rw [upd_ne npd.symm, upd_ne npd.symm, upd_ne npd.symm, upd_same]

/-! ### leave, clients_in, lone_from where nothing repeats -/
def spLvN (C : Addr) : Sp := fun vs H Q _ => ∃ (p o d : Addr) (ch : Bool) (c : Nat), vs = [.ref p, .int (c : Int)] ∧ LoopN C H p o d ch ∧ ∀ H', Kx p H H' → LoopN C H' p o d true → Q .non H'
theorem ok_lvN {f C CLp : Addr} {fd : FuncData} (F : Fun K "leave" "Loop.leave" s_Loop_leave f fd) (T : Txt K mg C) (TP : TxtP K mg CLp) : FnOk P w K mg base CX0 1 f fd ["self", "client"] (spLvN CLp) := by
  refine F.ok scLv (fun vs H Q E h => ?_) (fun cdv A outer s H vs Q E hr h => ?_)
  · obtain ⟨p, o, d, ch, c, rfl, _⟩ := h
    rfl
  · obtain ⟨p, o, d, ch, c, rfl, R, k⟩ := h
    have hu := hu_of hr
    refine ⟨_, (pss_cons (ps_for PassesOwn.never rfl (pi_list (pe_callTy (call_list_dK rfl) (by rfl) T.list (by decide +kernel) (pa_cons (pe_fld (pv 0) rfl) pa_nil))) (pg_name (i := 2) scLv.nd rfl (Or.inl rfl)) (pss_one (ps_if (pt_cmpR (r := rIn K false) op_in_seq (pv 1) (pe_dget hu (pe_fld (pv 0) rfl) (pv 2) (fun _ _ => rfl)) (by rfl)) (pss_one (ps_expr (pe_bm PySem.F.plainAttrs_list PySem.F.slot_list_remove PySem.F.type_list_remove mt_remove (pe_dget hu (pe_fld (pv 0) rfl) (pv 2) (fun _ _ => rfl)) (pa_cons (pv 1) pa_nil)))) pss_nil))) (pss_one (ps_fld (pv 0) pe_bl rfl))), ?_⟩
    obtain ⟨dx, hob⟩ := R.ob
    refine ⟨_, rfl, p, CLp, dx, _, _, rfl, hob, TP.cl, TP.nC, lpf_d _ _ _ _ _ _, d, _, rfl, R.hd, fun q hq => ?_⟩
    have S0 := same_new (o := .lst ([] : List V)) hq
    have R0 := R.same S0
    have hq0 : (upd H q (.lst ([] : List V))) q = some (.lst []) := upd_same
    refine ⟨q, rfl, ⟨_, SqL.of hq0⟩, for_list (a := q) (xs := []) (fun i σ H' => σ = [some (.ref p), some (.int (c : Int)), none] ∧ H' = upd H q (.lst ([] : List V))) ⟨rfl, rfl⟩ (fun i σ H' _ z => ?_) ?_ ?_⟩
    · rw [z.2]
      exact SqL.of hq0
    · rintro i x σ H1 hx _
      cases hx
    · rintro σ H1 ⟨rfl, rfl⟩
      obtain ⟨dx0, hob0⟩ := R0.ob
      refine ⟨_, rfl, p, CLp, dx0, _, rfl, hob0, TP.cl, TP.nH, (by show 6 < 1000; decide), ?_⟩
      rw [lpf_sc]
      have n := R0.np
      exact k _ ((Kx.of S0).trans Kx.upd) ⟨⟨dx0, upd_same⟩, by rw [upd_ne n.2]; exact R0.ho, by rw [upd_ne n.1]; exact R0.hd⟩
def spLvX (C : Addr) : Sp := fun vs H Q _ => ∃ (p o d : Addr) (gs : List Int) (tl : Tl) (bs : List Int) (M : List Nat) (ks : List Int) (as : List Addr) (L : Option Int) (ch : Bool) (c : Nat), vs = [.ref p, .int (c : Int)] ∧ LoopX C H p o d gs tl bs M ks as L ch ∧ M.Nodup ∧
  ∀ H', Grown H H' p d as as → LoopX C H' p o d gs tl bs (M.filter (· ≠ c)) ks as L true → Q .non H'
theorem grown_kx {p d : Addr} {as : List Addr} {H H' : Hp} (k : Kx p H H') : Grown H H' p d as as := ⟨fun c u e n _ _ => k c u n e, fun _ h => .inl h, fun _ h => h⟩
theorem ok_lvX {f C CLp : Addr} {fd : FuncData} (F : Fun K "leave" "Loop.leave" s_Loop_leave f fd) (T : Txt K mg C) (TP : TxtP K mg CLp) : FnOk P w K mg base CX0 1 f fd ["self", "client"] (spLvX CLp) :=
  (FnOk.two (ok_lv F T TP) (ok_lvN F T TP)).imp (fun vs H Q E h => by
    obtain ⟨p, o, d, gs, tl, bs, M, ks, as, L, ch, c, rfl, R, hn, k⟩ := h
    cases tl with
    | rep m => exact .inl ⟨p, o, d, gs, m, ks, as, _, L, ch, c, rfl, R, fun H' G R' => k H' G (by rw [herF_erase hn] at R'; exact R')⟩
    | fin =>
      obtain ⟨R, rfl, rfl, rfl⟩ := R
      exact .inr ⟨p, o, d, ch, c, rfl, R, fun H' kx R' => k H' (grown_kx kx) ⟨R', rfl, rfl, rfl⟩⟩
    | times b =>
      obtain ⟨R, rfl, rfl, rfl⟩ := R
      exact .inr ⟨p, o, d, ch, c, rfl, R, fun H' kx R' => k H' (grown_kx kx) ⟨R', rfl, rfl, rfl⟩⟩)
def spCiN (C : Addr) : Sp := fun vs H Q _ => ∃ (p o d : Addr) (ch : Bool) (s : Int), vs = [.ref p, .int s] ∧ LoopN C H p o d ch ∧ ∀ q, H q = none → Q (.ref q) (upd H q (.lst []))
theorem ok_ciN {f C CLp : Addr} {fd : FuncData} (F : Fun K "clients_in" "Loop.clients_in" s_Loop_clients_in f fd) (T : Txt K mg C) (TP : TxtP K mg CLp) : FnOk P w K mg base CX0 1 f fd ["self", "slot"] (spCiN CLp) := by
  refine F.ok scCi (fun vs H Q E h => ?_) (fun cdv A outer s H vs Q E hr h => ?_)
  · obtain ⟨p, o, d, ch, s, rfl, _⟩ := h
    rfl
  · obtain ⟨p, o, d, ch, st, rfl, R, k⟩ := h
    have hu := hu_of hr
    refine ⟨_, (pss_cons (ps_if (pt_cmpR op_isN (pe_fld (pv 0) rfl) pe_non (nomark _)) (pss_one (ps_ret (pe_lst pa_nil))) pss_nil) (pss_one (ps_ret (pe_callTy call_list_of (by rfl) T.list (by decide +kernel) (pa_cons (pe_dget2 hu (pe_fld (pv 0) rfl) (pe_op op_mod (pv 1) (pe_fld (pv 0) rfl)) (pe_lst pa_nil) ⟨by rfl, by rfl, by rfl, by rfl⟩) pa_nil))))), ?_⟩
    obtain ⟨dx, hob⟩ := R.ob
    refine ⟨_, rfl, p, CLp, dx, _, _, rfl, hob, TP.cl, TP.nF, lpf_F _ _ _ _ _ _, rfl, _, rfl, iteTb rfl ⟨(by show 0 ≤ sizeLine; decide), fun q hq => k q hq⟩⟩
def spCiX (C : Addr) : Sp := fun vs H Q _ => ∃ (p o d : Addr) (gs : List Int) (tl : Tl) (bs : List Int) (M : List Nat) (ks : List Int) (as : List Addr) (L : Option Int) (ch : Bool) (s : Int), vs = [.ref p, .int s] ∧ LoopX C H p o d gs tl bs M ks as L ch ∧
  ∀ q H', H q = none → Same H H' → H' q = some (.lst ((hereL gs tl bs M s).map nV)) → Q (.ref q) H'
theorem ok_ciX {f C CLp : Addr} {fd : FuncData} (F : Fun K "clients_in" "Loop.clients_in" s_Loop_clients_in f fd) (T : Txt K mg C) (TP : TxtP K mg CLp) : FnOk P w K mg base CX0 1 f fd ["self", "slot"] (spCiX CLp) :=
  (FnOk.two (ok_ci F T TP) (ok_ciN F T TP)).imp (fun vs H Q E h => by
    obtain ⟨p, o, d, gs, tl, bs, M, ks, as, L, ch, s, rfl, R, k⟩ := h
    cases tl with
    | rep m => exact .inl ⟨p, o, d, gs, m, ks, as, _, L, ch, s, rfl, R, k⟩
    | fin => exact .inr ⟨p, o, d, ch, s, rfl, R.1, fun q hq => k q _ hq (same_new hq) upd_same⟩
    | times b => exact .inr ⟨p, o, d, ch, s, rfl, R.1, fun q hq => k q _ hq (same_new hq) upd_same⟩)
def spBg (C : Addr) : Sp := fun vs H Q _ => ∃ (p o d : Addr) (gs : List Int) (tl : Tl) (bs : List Int) (M : List Nat) (ks : List Int) (as : List Addr) (L : Option Int) (ch : Bool) (k : Int), vs = [.ref p, .int k] ∧ LoopX C H p o d gs tl bs M ks as L ch ∧ Q (.bl (beg gs tl k)) H
theorem scBg : FnScope ["self", "attempt"] ["self", "attempt"] (defScope s_Loop_begins) := ⟨rfl, rfl, rfl, by decide +kernel, rfl, by decide +kernel, by decide +kernel⟩
theorem ok_bg {f C CLp : Addr} {fd : FuncData} (F : Fun K "begins" "Loop.begins" s_Loop_begins f fd) (T : Txt K mg C) (TP : TxtP K mg CLp) : FnOk P w K mg base CX0 1 f fd ["self", "attempt"] (spBg CLp) := by
  refine F.ok scBg (fun vs H Q E h => ?_) (fun cdv A outer s H vs Q E hr h => ?_)
  · obtain ⟨p, o, d, gs, tl, bs, M, ks, as, L, ch, k, rfl, _⟩ := h
    rfl
  · obtain ⟨p, o, d, gs, tl, bs, M, ks, as, L, ch, n, rfl, R, k⟩ := h
    refine ⟨_, (pss_one (ps_ret (pe_cmpR op_eq (pv 1) (pe_fld (pv 0) rfl) (nomark _)))), ?_⟩
    have key : ∃ dx Pv Lv, H p = some (.ins CLp dx (lpf Pv (frV gs tl) o d Lv ch)) := by
      cases tl with
      | rep m => obtain ⟨dx, e⟩ := R.ob; exact ⟨dx, _, _, e⟩
      | fin => obtain ⟨dx, e⟩ := R.1.ob; exact ⟨dx, _, _, e⟩
      | times b => obtain ⟨dx, e⟩ := R.1.ob; exact ⟨dx, _, _, e⟩
    obtain ⟨dx, Pv, Lv, hob⟩ := key
    have e : decide (V.int n = frV gs tl) = beg gs tl n := by
      cases tl with
      | rep m =>
        rw [Bool.eq_iff_iff, decide_eq_true_iff]
        show _ ↔ decide (n = ((gs.length - m : Nat) : Int)) = true
        rw [decide_eq_true_iff]
        exact ⟨V.int.inj, fun e => by rw [e]; rfl⟩
      | fin => exact decide_eq_false (fun e => nomatch e)
      | times b => exact decide_eq_false (fun e => nomatch e)
    refine ⟨_, rfl, _, rfl, p, CLp, dx, _, _, rfl, hob, TP.cl, TP.nF, lpf_F _ _ _ _ _ _, ?_⟩
    rw [← e] at k
    have sc : scal (V.int n) (frV gs tl) = true := by cases tl <;> rfl
    exact ⟨sc, k⟩
def spLfN (C : Addr) : Sp := fun vs H Q _ => ∃ (p o d : Addr) (ch : Bool) (s : Int), vs = [.ref p, .int s] ∧ LoopN C H p o d ch ∧ ∀ H', Kx p H H' → LoopN C H' p o d false → Q .non H'
theorem ok_lfN {f C CLp : Addr} {fd : FuncData} (F : Fun K "lone_from" "Loop.lone_from" s_Loop_lone_from f fd) (T : Txt K mg C) (TP : TxtP K mg CLp) (mMin : mg "min" = none) : FnOk P w K mg base CX0 1 f fd ["self", "slot"] (spLfN CLp) := by
  refine F.ok scLf (fun vs H Q E h => ?_) (fun cdv A outer s H vs Q E hr h => ?_)
  · obtain ⟨p, o, d, ch, s, rfl, _⟩ := h
    rfl
  · obtain ⟨p, o, d, ch, st, rfl, R, k⟩ := h
    have hu := hu_of hr
    refine ⟨_, (pss_cons (ps_if (PW.pt (pw_or (pt_val (pe_fld (pv 0) rfl)) (pw_or1 (PW.pt (pw_and (pt_cmpR op_notN (pe_fld (pv 0) rfl) pe_non (nomark _)) (pw_and1 (pt_cmpR op_lt (pe_fld (pv 0) rfl) (pv 1) (nomark _)))))))) (pss_cons (ps_lock (ps_setLc (i := 2) (own := [("residue", 3)]) (g := gName 3) (by rfl) scLf.nd rfl rfl (sw_true rfl rfl rfl (by decide +kernel)) (pi_keys (pe_fld (pv 0) rfl)) (blkOk_by (own := [("residue", 3)]) (N := lfN) (sc := (defScope s_Loop_lone_from)) (by decide +kernel)) (fun _ _ _ _ _ => (pg_name (i := 3) scLf.nd rfl (Or.inl rfl))) (fun _ _ _ _ _ => pts_one (pt_cmpR op_eq (pe_lenK K (by rfl) (by rfl) T.len (pe_dget hu (pe_fldK K (by rfl) (pv 0) rfl) (pv 3) (fun _ _ => rfl))) pe_int (nomark _))) (fun _ _ _ _ _ => (pv 3)))) (pss_cons (ps_fld (pv 0) (pe_callBK (cr_minD rfl) (by rfl) mMin (by decide +kernel) (pa_cons (pe_lc (own := [("residue", 3)]) (g := gName 3) (tt := tYes) rfl scLf.nd (pi_list (pv 2)) (blkOk_by (own := [("residue", 3)]) (N := lfN) (sc := (defScope s_Loop_lone_from)) (by decide +kernel)) (fun _ _ _ _ _ => (pg_name (i := 3) scLf.nd rfl (Or.inl rfl))) (fun _ _ _ _ _ => pts_nil) (fun _ _ _ _ _ => (pe_op op_add (pv 1) (pe_op op_mod (pe_op op_sub (pv 3) (pv 1)) (pe_fldK K (by rfl) (pv 0) rfl))))) pa_nil) (pk_cons pe_non pk_nil)) rfl) (pss_one (ps_fld (pv 0) pe_bl rfl)))) pss_nil) (pss_one (ps_ret (pe_fld (pv 0) rfl)))), ?_⟩
    obtain ⟨dx, hob⟩ := R.ob
    have np := R.np
    refine ⟨_, rfl, p, CLp, dx, _, _, rfl, hob, TP.cl, TP.nH, lpf_c _ _ _ _ _ _, ch, rfl, ?_⟩
    cases ch with
    | false =>
      refine iteF ?_
      refine ⟨_, rfl, p, CLp, dx, _, _, rfl, hob, TP.cl, TP.nL, lpf_L _ _ _ _ _ _, rfl, _, rfl, iteF (iteF ?_)⟩
      exact ⟨_, rfl, p, CLp, dx, _, _, rfl, hob, TP.cl, TP.nL, lpf_L _ _ _ _ _ _, k H (Kx.refl p H) R⟩
    | true =>
    refine iteT (iteT ?_)
    refine ⟨d, .dK [], R.hd, trivial, fun od => ?_⟩
    have hdL : (upd H d (.frz od (.dK []))) d = some (.frz od (.dK [])) := upd_same
    have kpL : ∀ b u, b ≠ d → H b = some u → (upd H d (.frz od (.dK []))) b = some u := fun b u nb e => by rw [upd_ne nb]; exact e
    generalize upd H d (.frz od (.dK [])) = HL at hdL kpL
    have hobL := kpL _ _ np.1.symm hob
    refine ⟨_, rfl, p, CLp, dx, _, _, rfl, hobL, TP.cl, TP.nC, lpf_d _ _ _ _ _ _, d, od, rfl, .inl ⟨[], hdL, fun D hD => lc_it (walk_keys (d := d) (o := od) (kvs := [])) (fun i H' => H' = upd HL D (.lst ([] : List V))) rfl (fun i H' _ q => by rw [q]; exact same_new hD _ _ hdL) (fun i x H4 H5 hi q hy => absurd hi (Nat.not_lt_zero _)) (fun H4 q => ?_)⟩⟩
    subst q
    have S4 := same_new (o := .lst ([] : List V)) hD
    have hD4 : (upd HL D (.lst ([] : List V))) D = some (.lst []) := upd_same
    generalize upd HL D (.lst ([] : List V)) = H4 at S4 hD4
    refine ⟨S4 _ _ hdL, ?_⟩
    have nDd : D ≠ d := fun z => by rw [z, hdL] at hD; cases hD
    have S5 : Same H (upd H4 d (.dK [])) := fun b u e => by
      by_cases nb : b = d
      · subst nb
        rw [upd_same, ← R.hd, e]
      · rw [upd_ne nb]
        exact S4 _ _ (kpL _ _ nb e)
    have hD5 : (upd H4 d (.dK [])) D = some (.lst []) := by rw [upd_ne nDd]; exact hD4
    generalize upd H4 d (.dK []) = H5 at S5 hD5
    have R5 := R.same S5
    obtain ⟨dx5, hob5⟩ := R5.ob
    refine ⟨_, rfl, D, rfl, ⟨_, SqL.of hD5⟩, fun D2 hD2 => lc_list (a := D) (xs := []) (fun i H' => H' = upd H5 D2 (.lst ([] : List V))) rfl (fun i H' _ q => by rw [q]; exact SqL.of (same_new hD2 _ _ hD5)) (fun i x H6 hx q => nomatch hx) (fun H6 q => ?_)⟩
    subst q
    have S6 := same_new (o := .lst ([] : List V)) hD2
    have hD6 : (upd H5 D2 (.lst ([] : List V))) D2 = some (.lst []) := upd_same
    generalize upd H5 D2 (.lst ([] : List V)) = H6 at S6 hD6
    refine ⟨D2, [], rfl, rfl, SqL.of hD6, fun v hv => ?_⟩
    have ev : v = .non := by
      rcases hv with ⟨_, e⟩ | ⟨x, hx, _⟩
      · exact e
      · cases hx
    subst ev
    have R6 := R5.same S6
    obtain ⟨dx6, hob6⟩ := R6.ob
    have n6 := R6.np
    refine ⟨_, rfl, p, CLp, dx6, _, rfl, hob6, TP.cl, TP.nL, (by show 6 < 1000; decide), ?_⟩
    rw [lpf_sL]
    refine ⟨_, rfl, p, CLp, dx6, _, rfl, upd_same, TP.cl, TP.nH, (by show 6 < 1000; decide), ?_⟩
    rw [lpf_sc]
    refine ⟨_, rfl, p, CLp, dx6, _, _, rfl, upd_same, TP.cl, TP.nL, lpf_L _ _ _ _ _ _, k _ (((Kx.of (S5.trans S6)).trans Kx.upd).trans Kx.upd) ⟨⟨dx6, upd_same⟩, ?_, ?_⟩⟩
    · rw [upd_ne n6.2, upd_ne n6.2]
      exact R6.ho
    · rw [upd_ne n6.1, upd_ne n6.1]
      exact R6.hd
def spLfX (C : Addr) : Sp := fun vs H Q _ => ∃ (p o d : Addr) (gs : List Int) (tl : Tl) (bs : List Int) (M : List Nat) (ks : List Int) (as : List Addr) (L : Option Int) (ch : Bool) (s : Int), vs = [.ref p, .int s] ∧ LoopX C H p o d gs tl bs M ks as L ch ∧ ks.length ≤ 100000 ∧ (ch = false → ∃ q, q ≤ s ∧ LoneH gs tl bs M q L) ∧
  ∀ L' H', Kx p H H' → LoopX C H' p o d gs tl bs M ks as L' false → LoneH gs tl bs M s L' → Q (optV L') H'
theorem lone_rep {gs : List Int} {m : Nat} {bs : List Int} {M : List Nat} {q : Int} {L : Option Int} : LoneH gs (.rep m) bs M q L ↔ IsLone (hereF (tabOf gs m bs) M) (per gs m) q L := by
  cases L <;> exact Iff.rfl
theorem ok_lfX {f C CLp : Addr} {fd : FuncData} (F : Fun K "lone_from" "Loop.lone_from" s_Loop_lone_from f fd) (T : Txt K mg C) (TP : TxtP K mg CLp) (mMin : mg "min" = none) : FnOk P w K mg base CX0 1 f fd ["self", "slot"] (spLfX CLp) :=
  (FnOk.two (ok_lf F T TP mMin) (ok_lfN F T TP mMin)).imp (fun vs H Q E h => by
    obtain ⟨p, o, d, gs, tl, bs, M, ks, as, L, ch, s, rfl, R, hk, hl, k⟩ := h
    cases tl with
    | rep m => exact .inl ⟨p, o, d, gs, m, ks, as, _, L, ch, s, rfl, R, hk, fun e => let ⟨q, a, b⟩ := hl e; ⟨q, a, lone_rep.mp b⟩, fun L' H' a b c => k L' H' a b (lone_rep.mpr c)⟩
    | fin =>
      obtain ⟨R, rfl, rfl, rfl⟩ := R
      exact .inr ⟨p, o, d, ch, s, rfl, R, fun H' kx R' => k none H' kx ⟨R', rfl, rfl, rfl⟩ fun t _ => (show ([] : List Nat).length ≠ 1 by decide)⟩
    | times b =>
      obtain ⟨R, rfl, rfl, rfl⟩ := R
      exact .inr ⟨p, o, d, ch, s, rfl, R, fun H' kx R' => k none H' kx ⟨R', rfl, rfl, rfl⟩ fun t _ => (show ([] : List Nat).length ≠ 1 by decide)⟩)
end
end RS
namespace RS
open PySem PySem.Spec PyProof.Rows L2
/-! ### a slice whose part may be None -/
def PartO (x : V) (P : Option Int → Prop) : Prop := (∃ i, x = .int i ∧ P (some i)) ∨ (x = .non ∧ P none)
def tPartO (t : TE) : L2.TO := fun σ H Q => t σ H fun x H1 => PartO x fun o => Q o H1
theorem po_any {X : Cx} {e : Expr} {te : TE} (h : PE X e te) : PO X (some e) (tPartO te) := by
  refine ⟨fun pins s σ H Q I hw => ?_⟩
  rw [evalPart_some]
  refine thn (h.run pins s σ H _ I hw) fun u s1 ⟨x, H1, I1, r1, q1⟩ => ?_
  rcases q1 with ⟨i, rfl, q⟩ | ⟨rfl, q⟩
  · obtain ⟨t, rfl⟩ := r1
    exact ⟨some i, H1, I1, .int i t, q⟩
  · obtain rfl : u = Value.none := r1
    exact ⟨none, H1, I1, .none, q⟩
end RS
namespace RS
open PySem L2
/-! ### the gaps of a rule before those that repeat -/
structure TxtG (K : PySem.W.Frag) (mg : Str → Option Value) (CG : Addr) : Prop where
  cl : Cls K CG
  nG : NoAttr K CG "_gaps"
  nF : NoAttr K CG "_factor"
  mgG : mg "SingleGaps" = some (.ref CG)
def sgf (l : Addr) (F : V) : List (Str × V) := [("_gaps", .ref l), ("_factor", F)]
theorem sgf_g (l : Addr) (F : V) : (sgf l F).lookup ("_gaps" : Str) = some (.ref l) := lke
theorem sgf_f (l : Addr) (F : V) : (sgf l F).lookup ("_factor" : Str) = some F := by
  unfold sgf
  rw [lkn (by decide +kernel), lke]
theorem sgf_no {l : Addr} {F : V} {m : Str} (h1 : m ≠ "_gaps") (h2 : m ≠ "_factor") : (sgf l F).lookup m = none := by
  unfold sgf
  rw [lkn h1, lkn h2]
  rfl
def fcV : Tl → V
  | .times b => .int b
  | _ => .non
/-- how many single gaps are listed -/
def SgLen (gs : List Int) : Tl → Nat → Prop
  | .rep m, j => j = gs.length - m
  | .fin, j => j = gs.length
  | .times _, j => gs.length ≤ j
structure SgAt (C : Addr) (H : Hp) (p l : Addr) (gs : List Int) (tl : Tl) (j : Nat) : Prop where
  ob : ∃ dx, H p = some (.ins C dx (sgf l (fcV tl)))
  hl : H l = some (.lst (((List.range j).map (gapf gs tl)).map V.int))
  hj : SgLen gs tl j
  okG : GapsOk gs
  okT : TlOk gs.length tl
theorem SgAt.same {C : Addr} {H H' : Hp} {p l : Addr} {gs : List Int} {tl : Tl} {j : Nat} (R : SgAt C H p l gs tl j) (S : Same H H') : SgAt C H' p l gs tl j :=
  ⟨let ⟨dx, e⟩ := R.ob; ⟨dx, S _ _ e⟩, S _ _ R.hl, R.hj, R.okG, R.okT⟩
theorem SgAt.kx {C a : Addr} {H H' : Hp} {p l : Addr} {gs : List Int} {tl : Tl} {j : Nat} (R : SgAt C H p l gs tl j) (k : Kx a H H') (n1 : p ≠ a) (n2 : l ≠ a) : SgAt C H' p l gs tl j :=
  ⟨let ⟨dx, e⟩ := R.ob; ⟨dx, k _ _ n1 e⟩, k _ _ n2 R.hl, R.hj, R.okG, R.okT⟩
theorem gap_take {gs : List Int} {tl : Tl} {k : Nat} (h : k ≤ gs.length) : (gs.take k) = (List.range k).map (gapf gs tl) := by
  refine List.ext_getElem? fun i => ?_
  by_cases hi : i < k
  · rw [List.getElem?_take_of_lt hi, List.getElem?_map, List.getElem?_range hi, List.getElem?_eq_getElem (by omega)]
    show _ = some (gapf gs tl i)
    rw [gap_low (by omega), List.getD_eq_getElem?_getD, List.getElem?_eq_getElem (by omega)]
    rfl
  · rw [List.getElem?_eq_none (by rw [List.length_take]; omega), List.getElem?_eq_none (by rw [List.length_map, List.length_range]; omega)]
def frO (gs : List Int) : Tl → Option Int
  | .rep m => some ((gs.length - m : Nat) : Int)
  | _ => none
theorem fr_part {gs : List Int} {tl : Tl} {P : Option Int → Prop} (h : P (frO gs tl)) : PartO (frV gs tl) P := by
  cases tl with
  | rep m => exact .inl ⟨_, rfl, h⟩
  | fin => exact .inr ⟨rfl, h⟩
  | times b => exact .inr ⟨rfl, h⟩
def sgLen (gs : List Int) : Tl → Nat
  | .rep m => gs.length - m
  | _ => gs.length
theorem sgLen_ok (gs : List Int) (tl : Tl) : SgLen gs tl (sgLen gs tl) ∧ sgLen gs tl ≤ gs.length := by
  cases tl with
  | rep m => exact ⟨rfl, Nat.sub_le ..⟩
  | fin => exact ⟨rfl, Nat.le_refl _⟩
  | times b => exact ⟨Nat.le_refl gs.length, Nat.le_refl _⟩
theorem cut_sg (gs : List Int) (tl : Tl) : cutV (gs.map V.int) none (frO gs tl) = ((List.range (sgLen gs tl)).map (gapf gs tl)).map V.int := by
  have e : HT.sIx (gs.map V.int).length (gs.map V.int).length (frO gs tl) = sgLen gs tl := by
    rw [List.length_map]
    cases tl with
    | rep m =>
      show HT.sIx _ _ (some ((gs.length - m : Nat) : Int)) = gs.length - m
      rw [HT.sIx_nat]
      omega
    | fin => rfl
    | times b => rfl
  unfold cutV
  rw [e, HT.sIx_none, List.drop_zero, Nat.sub_zero, ← List.map_take, gap_take (sgLen_ok gs tl).2]
section
variable {P : Program} {w : World} {K : PySem.W.Frag} {mg : Str → Option Value} {base : Heap}
def spSg0 (C CG : Addr) : Sp := fun vs H Q _ => ∃ (p dx r g t o : Addr) (gs : List Int) (tl : Tl), vs = [.ref p, .ref r] ∧ H p = some (.ins CG dx []) ∧ RuleAt C H r g t o gs tl ∧
  ∀ (l : Addr) (j : Nat) (H' : Hp), H l = none → j ≤ gs.length → Kx p H H' → SgAt CG H' p l gs tl j → Q .non H'
theorem scSg0 : FnScope ["self", "rule"] ["self", "rule"] (defScope s_SingleGaps_ddinitdd) := ⟨rfl, rfl, rfl, by decide +kernel, rfl, by decide +kernel, by decide +kernel⟩
theorem ok_sg0 {f C CG fG fF fT : Addr} {fd fdG fdF fdT : FuncData} (F : Fun K "__init__" "SingleGaps.__init__" s_SingleGaps_ddinitdd f fd) (T : Txt K mg C) (TG : TxtG K mg CG) (GG : FnOk P w K mg base CX0 1 fG fdG ["self"] (spGaps C)) (bG : Binds K fdG ["self"] []) (mG : Meth K C "gaps" fG)
    (GF : FnOk P w K mg base CX0 1 fF fdF ["self"] (spFRA C)) (bF : Binds K fdF ["self"] []) (mF : Meth K C "first_repeating" fF) (GT : FnOk P w K mg base CX0 1 fT fdT ["self"] (spTail C)) (bT : Binds K fdT ["self"] []) (mT : Meth K C "tail" fT) : FnOk P w K mg base CX0 2 f fd ["self", "rule"] (spSg0 C CG) := by
  refine F.ok scSg0 (fun vs H Q E h => ?_) (fun cdv A outer s H vs Q E hr h => ?_)
  · obtain ⟨p, dx, r, g, t, o, gs, tl, rfl, _⟩ := h
    rfl
  · obtain ⟨p, dx, r, g, t, o, gs, tl, rfl, hp, R, k⟩ := h
    refine ⟨_, (pss_cons (ps_fld (pv 0) (pe_slice sl_list (pe_meth0 (pv 1) T.cl mG GG hr bG .nil pass0) po_none (po_any (pe_meth0 (pv 1) T.cl mF GF hr bF .nil pass0))) rfl) (pss_cons (ps_fld (pv 0) pe_non rfl) (pss_one (ps_if (pt_cmpR op_eq (pe_ix ix_tup (pe_meth0 (pv 1) T.cl mT GT hr bT .nil pass0) pe_int (fun _ _ => rfl)) pe_str (nomark _)) (pss_one (ps_fld (pv 0) (pe_ix ix_tup (pe_meth0 (pv 1) T.cl mT GT hr bT .nil pass0) pe_int (fun _ _ => rfl)) rfl)) pss_nil)))), ?_⟩
    obtain ⟨dxr, hob⟩ := R.ob
    have nrp : r ≠ p := ne_of hob hp (by intro z; injection z with z1 z2 z3; exact flds_cons g t o z3)
    have nF : ∀ {m : Str}, ¬ m = "_offsets" → ¬ m = "_tail" → ¬ m = "_gaps" → (flds g t o).lookup m = none := fun a b c => flds_no _ _ _ a b c
    refine ⟨_, rfl, r, dxr, _, rfl, hob, nF (by decide +kernel) (by decide +kernel) (by decide +kernel), r, g, t, o, gs, tl, rfl, R, fun l0 hl0 => ?_⟩
    have S0 := same_new (o := .lst (gs.map V.int)) hl0
    have R0 := R.mono S0
    have hl00 : (upd H l0 (.lst (gs.map V.int))) l0 = some (.lst (gs.map V.int)) := upd_same
    have hp0 := S0 _ _ hp
    generalize upd H l0 (.lst (gs.map V.int)) = H0 at S0 R0 hl00 hp0
    obtain ⟨dxr0, hob0⟩ := R0.ob
    refine ⟨_, rfl, r, dxr0, _, rfl, hob0, nF (by decide +kernel) (by decide +kernel) (by decide +kernel), r, g, t, o, gs, tl, rfl, R0, ?_⟩
    refine fr_part (gs := gs) (tl := tl) ?_
    refine ⟨l0, _, rfl, SqL.of hl00, fun l hl => ?_⟩
    rw [cut_sg]
    have S1 := same_new (o := .lst (((List.range (sgLen gs tl)).map (gapf gs tl)).map V.int)) hl
    have R1 := R0.mono S1
    have hl1 : (upd H0 l (.lst (((List.range (sgLen gs tl)).map (gapf gs tl)).map V.int))) l = some (.lst (((List.range (sgLen gs tl)).map (gapf gs tl)).map V.int)) := upd_same
    have hp1 := S1 _ _ hp0
    have S01 := S0.trans S1
    have hlH := S0.free hl
    generalize upd H0 l (.lst (((List.range (sgLen gs tl)).map (gapf gs tl)).map V.int)) = H1 at S1 R1 hl1 hp1 S01
    have nlp : l ≠ p := ne_of hl1 hp1 (by intro z; cases z)
    refine ⟨_, rfl, p, CG, dx, _, rfl, hp1, TG.cl, TG.nG, (by show 0 < 1000; decide), ?_⟩
    refine ⟨_, rfl, p, CG, dx, _, rfl, upd_same, TG.cl, TG.nF, (by show 1 < 1000; decide), ?_⟩
    have e1 : putF "_factor" V.non (putF "_gaps" (.ref l) []) = sgf l .non := by
      show putF "_factor" V.non [(("_gaps" : Str), V.ref l)] = _
      rw [pfn (by decide +kernel)]
      rfl
    rw [e1]
    have R2 := (R1.offx (u := .ins CG dx (putF "_gaps" (.ref l) [])) ⟨_, _, _, hp1⟩ nrp).offx (u := .ins CG dx (sgf l .non)) ⟨_, _, _, upd_same⟩ nrp
    have hp2 : (upd (upd H1 p (.ins CG dx (putF "_gaps" (.ref l) []))) p (.ins CG dx (sgf l .non))) p = some (.ins CG dx (sgf l .non)) := upd_same
    have hl2 : (upd (upd H1 p (.ins CG dx (putF "_gaps" (.ref l) []))) p (.ins CG dx (sgf l .non))) l = some (.lst (((List.range (sgLen gs tl)).map (gapf gs tl)).map V.int)) := by rw [upd_ne nlp, upd_ne nlp]; exact hl1
    have k2 : Kx p H (upd (upd H1 p (.ins CG dx (putF "_gaps" (.ref l) []))) p (.ins CG dx (sgf l .non))) := ((Kx.of S01).trans Kx.upd).trans Kx.upd
    generalize upd (upd H1 p (.ins CG dx (putF "_gaps" (.ref l) []))) p (.ins CG dx (sgf l .non)) = H2 at R2 hp2 hl2 k2
    obtain ⟨dxr2, hob2⟩ := R2.ob
    refine ⟨_, rfl, r, dxr2, _, rfl, hob2, nF (by decide +kernel) (by decide +kernel) (by decide +kernel), r, g, t, o, gs, tl, rfl, R2, ?_⟩
    refine ⟨t, _, 0, _, rfl, rfl, SqT.of R2.ht, tl.at0, ?_⟩
    have fin : ∀ {H3 : Hp}, Kx p H H3 → (∃ dx, H3 p = some (.ins CG dx (sgf l (fcV tl)))) → H3 l = some (.lst (((List.range (sgLen gs tl)).map (gapf gs tl)).map V.int)) → Q .non H3 := fun k3 o3 l3 =>
      k l (sgLen gs tl) _ hlH (sgLen_ok gs tl).2 k3 ⟨o3, l3, (sgLen_ok gs tl).1, R.okG, R.okT⟩
    cases tl with
    | fin => exact ⟨rfl, _, rfl, iteFb wET (fin k2 ⟨dx, hp2⟩ hl2)⟩
    | rep m => exact ⟨rfl, _, rfl, iteFb wRT (fin k2 ⟨dx, hp2⟩ hl2)⟩
    | times b =>
      refine ⟨rfl, _, rfl, iteTb wTT ?_⟩
      refine ⟨_, rfl, r, dxr2, _, rfl, hob2, nF (by decide +kernel) (by decide +kernel) (by decide +kernel), r, g, t, o, gs, .times b, rfl, R2, ?_⟩
      refine ⟨t, _, 1, _, rfl, rfl, SqT.of R2.ht, atI_nat (j := 1) rfl, ?_⟩
      refine ⟨_, rfl, p, CG, dx, _, rfl, hp2, TG.cl, TG.nF, (by show 2 < 1000; decide), ?_⟩
      have e2 : putF "_factor" (V.int b) (sgf l .non) = sgf l (.int b) := by
        unfold sgf
        rw [pfn (by decide +kernel), pfe]
      rw [e2]
      exact fin (k2.trans Kx.upd) ⟨dx, upd_same⟩ (by rw [upd_ne nlp]; exact hl2)
/-! ### SingleGaps.behind -/
/-- the gap behind an attempt, or None -/
def gapV (gs : List Int) (tl : Tl) (k : Nat) : V := if endQ gs tl (k : Int) then .non else .int (gapf gs tl k)
def spBe (CG : Addr) : Sp := fun vs H Q _ => ∃ (p l : Addr) (gs : List Int) (tl : Tl) (j k : Nat), vs = [.ref p, .int (k : Int)] ∧ SgAt CG H p l gs tl j ∧ j ≤ 100000 ∧ k ≤ 50000 ∧ (∀ m, tl = .rep m → k < gs.length - m) ∧ (tl = .fin → k ≤ gs.length) ∧
  ∀ j' H', j' ≤ max j (k + 1) → Kx l H H' → SgAt CG H' p l gs tl j' → Q (gapV gs tl k) H'
theorem scBe : FnScope ["self", "attempt"] ["self", "attempt"] (defScope s_SingleGaps_behind) := ⟨rfl, rfl, rfl, by decide +kernel, rfl, by decide +kernel, by decide +kernel⟩
theorem ok_be {f C CG : Addr} {fd : FuncData} (F : Fun K "behind" "SingleGaps.behind" s_SingleGaps_behind f fd) (T : Txt K mg C) (TG : TxtG K mg CG) : FnOk P w K mg base CX0 1 f fd ["self", "attempt"] (spBe CG) := by
  refine F.ok scBe (fun vs H Q E h => ?_) (fun cdv A outer s H vs Q E hr h => ?_)
  · obtain ⟨p, l, gs, tl, j, k, rfl, _⟩ := h
    rfl
  · obtain ⟨p, l, gs, tl, j, n, rfl, R, hj, hn, hrep, hfin, k⟩ := h
    refine ⟨_, (Evl.pss_cut (ps_while PassesOwn.never (PW.pt (pw_and (pt_cmpR op_notN (pe_fld (pv 0) rfl) pe_non (nomark _)) (pw_and1 (pt_cmpR op_ge (pv 1) (pe_callB call_len_seq (by rfl) T.len (by decide +kernel) (pa_cons (pe_fld (pv 0) rfl) pa_nil)) (nomark _))))) (pss_one (ps_expr (pe_bm PySem.F.plainAttrs_list PySem.F.slot_list_append PySem.F.type_list_append mt_append (pe_fld (pv 0) rfl) (pa_cons (pe_op op_mul (pe_ix ix_list (pe_fld (pv 0) rfl) (pe_un un_neg pe_int) (fun _ _ => rfl)) (pe_fld (pv 0) rfl)) pa_nil))))) (pss_cons (ps_if (pt_cmpR op_lt (pv 1) (pe_callB call_len_seq (by rfl) T.len (by decide +kernel) (pa_cons (pe_fld (pv 0) rfl) pa_nil)) (nomark _)) (pss_one (ps_ret (pe_ix ix_list (pe_fld (pv 0) rfl) (pv 1) (fun _ _ => rfl)))) pss_nil) (pss_one (ps_ret pe_non)))), ?_⟩
    have np : ∀ {H' : Hp} {j' : Nat}, SgAt CG H' p l gs tl j' → p ≠ l := fun R' => by
      obtain ⟨dx, e⟩ := R'.ob
      exact ne_of e R'.hl (by intro z; cases z)
    have len0 : ∀ j' : Nat, (((List.range j').map (gapf gs tl)).map V.int).length = j' := fun j' => by simp
    refine ⟨fun σ' H' => ∃ j', σ' = [some (.ref p), some (.int (n : Int))] ∧ j' ≤ max j (n + 1) ∧ Kx l H H' ∧ SgAt CG H' p l gs tl j' ∧ (tl ≠ .fin → n < j'), ?_, ?_⟩
    · refine ⟨fun m σ H' => ∃ j', σ = [some (.ref p), some (.int (n : Int))] ∧ m = n + 1 - j' ∧ j' ≤ max j (n + 1) ∧ Kx l H H' ∧ SgAt CG H' p l gs tl j', ⟨_, j, rfl, rfl, Nat.le_max_left .., Kx.refl l H, R⟩, ?_⟩
      rintro m σ H1 ⟨j', rfl, rfl, hj', k1, R1⟩
      obtain ⟨dx, hob⟩ := R1.ob
      refine ⟨_, rfl, p, CG, dx, _, _, rfl, hob, TG.cl, TG.nF, sgf_f _ _, rfl, _, rfl, ?_⟩
      cases tl with
      | fin => exact iteF (iteF ⟨j', rfl, hj', k1, R1, fun e => absurd rfl e⟩)
      | rep m => exact iteF (iteF ⟨j', rfl, hj', k1, R1, fun _ => by have := hrep m rfl; have e : j' = gs.length - m := R1.hj; omega⟩)
      | times b =>
        refine iteT ?_
        have hb0 := R.okT.2.1
        have hb1 := R.okT.2.2
        have l0 := R.okT.1
        have lj : gs.length ≤ j' := R1.hj
        refine ⟨_, rfl, _, rfl, p, CG, dx, _, _, rfl, hob, TG.cl, TG.nG, sgf_g _ _, l, _, rfl, .inl (SqL.of R1.hl), _, _, rfl, rfl, _, rfl, ?_⟩
        rw [len0]
        by_cases hlt : (j' : Int) ≤ (n : Int)
        · refine iteTb (decide_eq_true hlt) ⟨fun σ' H' => σ' = [some (.ref p), some (.int (n : Int))] ∧ Kx l H H' ∧ SgAt CG H' p l gs (.times b) (j' + 1), fun σ' H' z => ⟨n + 1 - (j' + 1), by omega, j' + 1, z.1, rfl, by omega, z.2.1, z.2.2⟩, ?_⟩
          have eg := gap_grow (gs := gs) (b := b) (by omega) lj
          refine ⟨_, rfl, p, CG, dx, _, _, rfl, hob, TG.cl, TG.nG, sgf_g _ _, .inl ⟨rfl, _, SqL.of R1.hl⟩, _, rfl, p, CG, dx, _, _, rfl, hob, TG.cl, TG.nG, sgf_g _ _, _, rfl, l, _, _, _, rfl, rfl, SqL.of R1.hl, at_back1 (v := .int (gapf gs (.times b) (j' - 1))) (by rw [len0]; omega) (by rw [len0, List.getElem?_map, List.getElem?_map, List.getElem?_range (by omega)]; rfl), _, rfl, p, CG, dx, _, _, rfl, hob, TG.cl, TG.nF, sgf_f _ _, _, _, rfl, rfl, .inr ⟨by omega, by omega⟩, l, _, _, rfl, rfl, R1.hl, by rw [len0]; exact small_line (by omega), rfl, k1.trans Kx.upd, ?_⟩
          refine ⟨⟨dx, by rw [upd_ne (np R1)]; exact hob⟩, ?_, (by show gs.length ≤ j' + 1; omega), R.okG, R.okT⟩
          rw [upd_same, List.range_succ, List.map_append, List.map_append, List.map_singleton, List.map_singleton, eg]
        · exact iteFb (decide_eq_false hlt) ⟨j', rfl, hj', k1, R1, fun _ => by omega⟩
    rintro _ H1 ⟨j', rfl, hj', k1, R1, hlt⟩
    obtain ⟨dx, hob⟩ := R1.ob
    refine ⟨_, rfl, _, rfl, p, CG, dx, _, _, rfl, hob, TG.cl, TG.nG, sgf_g _ _, l, _, rfl, .inl (SqL.of R1.hl), _, _, rfl, rfl, _, rfl, ?_⟩
    rw [len0]
    by_cases hn' : (n : Int) < (j' : Int)
    · refine iteTb (decide_eq_true hn') ?_
      have eV : gapV gs tl n = .int (gapf gs tl n) := by
        unfold gapV
        rw [if_neg (fun z => by
          obtain ⟨e, h⟩ := endQ_iff.mp z
          subst e
          have e2 : j' = gs.length := R1.hj
          omega)]
      refine ⟨_, rfl, p, CG, dx, _, _, rfl, hob, TG.cl, TG.nG, sgf_g _ _, _, rfl, l, _, _, _, rfl, rfl, SqL.of R1.hl, atI_nat (j := n) (by rw [List.getElem?_map, List.getElem?_map, List.getElem?_range (by omega)]; rfl), ?_⟩
      have := k j' H1 hj' k1 R1
      rw [eV] at this
      exact this
    · refine iteFb (decide_eq_false hn') ?_
      have ef : tl = .fin := Classical.byContradiction fun z => hn' (by have := hlt z; omega)
      subst ef
      have e2 : j' = gs.length := R1.hj
      have eV : gapV gs .fin n = .non := by
        unfold gapV
        rw [if_pos (endQ_iff.mpr ⟨rfl, by omega⟩)]
      have := k j' H1 hj' k1 R1
      rw [eV] at this
      exact this
end
end RS
namespace Hpq
open PySem PySem.Spec PyProof.Rows
/-! ### heapq: what the tables say of heappush and heappop -/
theorem kind_push : builtinKind "_heapq.heappush" = none := by decide +kernel
theorem plain_push : plainId "_heapq.heappush" = true := by decide +kernel
theorem entry_push : entryFor table "_heapq.heappush" = some Builtin.«_heapq.heappush» := by
  refine entryFor_of_tree ?_
  kernel_rfl
theorem kind_pop : builtinKind "_heapq.heappop" = none := by decide +kernel
theorem plain_pop : plainId "_heapq.heappop" = true := by decide +kernel
theorem entry_pop : entryFor table "_heapq.heappop" = some Builtin.«_heapq.heappop» := by
  refine entryFor_of_tree ?_
  kernel_rfl
theorem plain_sift : plainId "_heapq.heapify.sift" = true := by decide +kernel
theorem entry_sift : entryFor table "_heapq.heapify.sift" = some Builtin.«_heapq.heapify.sift» := by
  refine entryFor_of_tree ?_
  kernel_rfl
theorem args_push (a b : Value) : argsOk "_heapq.heappush" ⟨[a, b], []⟩ := by unfold argsOk; kernel_rfl
theorem args_pop (a : Value) : argsOk "_heapq.heappop" ⟨[a], []⟩ := by unfold argsOk; kernel_rfl
end Hpq
namespace Hpq
open PySem
/-! ### a heap in an array: the mathematics -/
def Le3 (p q : Int × Int × Int) : Prop := p.1 < q.1 ∨ (p.1 = q.1 ∧ (p.2.1 < q.2.1 ∨ (p.2.1 = q.2.1 ∧ p.2.2 ≤ q.2.2)))
instance (p q : Int × Int × Int) : Decidable (Le3 p q) := by unfold Le3; exact inferInstance
theorem Le3.trans {p q r : Int × Int × Int} (h : Le3 p q) (g : Le3 q r) : Le3 p r := by unfold Le3 at *; omega
theorem Le3.total {p q : Int × Int × Int} (h : ¬ Le3 p q) : Le3 q p := by unfold Le3 at *; omega
theorem Le3.refl (p : Int × Int × Int) : Le3 p p := by unfold Le3; omega
section
variable (k : Value → Int × Int × Int)
/-- the rank of an item -/
def rk (xs : Array Value) (i : Nat) : Int × Int × Int := k (xs.getD i .none)
def HP (xs : Array Value) : Prop := ∀ i, 0 < i → i < xs.size → Le3 (rk k xs ((i - 1) / 2)) (rk k xs i)
def UP (xs : Array Value) (pos : Nat) : Prop := (∀ i, 0 < i → i < xs.size → i ≠ pos → Le3 (rk k xs ((i - 1) / 2)) (rk k xs i)) ∧ ∀ c, 0 < c → c < xs.size → (c - 1) / 2 = pos → 0 < pos → Le3 (rk k xs ((pos - 1) / 2)) (rk k xs c)
def DN (xs : Array Value) (pos : Nat) : Prop := (∀ i, 0 < i → i < xs.size → i ≠ pos → (i - 1) / 2 ≠ pos → Le3 (rk k xs ((i - 1) / 2)) (rk k xs i)) ∧ ∀ c, 0 < c → c < xs.size → (c - 1) / 2 = pos → 0 < pos → Le3 (rk k xs ((pos - 1) / 2)) (rk k xs c)
variable {k}
theorem UP.stop {xs : Array Value} {pos : Nat} (u : UP k xs pos) (h : 0 < pos → Le3 (rk k xs ((pos - 1) / 2)) (rk k xs pos)) : HP k xs := fun i h0 h1 => by
  by_cases e : i = pos
  · subst e
    exact h h0
  · exact u.1 i h0 h1 e
/-- two items change places -/
def swp (xs : Array Value) (i j : Nat) (x y : Value) : Array Value := (xs.setIfInBounds i y).setIfInBounds j x
theorem swp_size (xs : Array Value) (i j : Nat) (x y : Value) : (swp xs i j x y).size = xs.size := by
  unfold swp
  rw [Array.size_setIfInBounds, Array.size_setIfInBounds]
theorem swp_get {xs : Array Value} {i j : Nat} {x y : Value} (hi : xs[i]? = some x) (hj : xs[j]? = some y) (t : Nat) : (swp xs i j x y)[t]? = if t = j then some x else if t = i then some y else xs[t]? := by
  have li : i < xs.size := (Array.getElem?_eq_some_iff.mp hi).1
  have lj : j < xs.size := (Array.getElem?_eq_some_iff.mp hj).1
  unfold swp
  rw [Array.getElem?_setIfInBounds, Array.size_setIfInBounds, Array.getElem?_setIfInBounds]
  by_cases e1 : j = t
  · subst e1
    rw [if_pos rfl, if_pos lj, if_pos rfl]
  · rw [if_neg e1, if_neg (show ¬ t = j from fun z => e1 z.symm)]
    by_cases e2 : i = t
    · subst e2
      rw [if_pos rfl, if_pos li, if_pos rfl]
    · rw [if_neg e2, if_neg (show ¬ t = i from fun z => e2 z.symm)]
theorem rk_get {xs : Array Value} {i : Nat} {x : Value} (h : xs[i]? = some x) : rk k xs i = k x := by
  unfold rk
  rw [Array.getD_eq_getD_getElem?, h]
  rfl
theorem rk_swp {xs : Array Value} {i j : Nat} {x y : Value} (hi : xs[i]? = some x) (hj : xs[j]? = some y) (t : Nat) : rk k (swp xs i j x y) t = if t = j then rk k xs i else if t = i then rk k xs j else rk k xs t := by
  have e := swp_get hi hj t
  rw [rk_get hi, rk_get hj]
  unfold rk
  rw [Array.getD_eq_getD_getElem?, e]
  by_cases e1 : t = j
  · rw [if_pos e1, if_pos e1]
    rfl
  · rw [if_neg e1, if_neg e1]
    by_cases e2 : t = i
    · rw [if_pos e2, if_pos e2]
      rfl
    · rw [if_neg e2, if_neg e2, Array.getD_eq_getD_getElem?]
theorem swp_perm {xs : Array Value} {i j : Nat} {x y : Value} (hi : xs[i]? = some x) (hj : xs[j]? = some y) : (swp xs i j x y).toList.Perm xs.toList := by
  obtain ⟨li, ei⟩ := Array.getElem?_eq_some_iff.mp hi
  obtain ⟨lj, ej⟩ := Array.getElem?_eq_some_iff.mp hj
  have e : swp xs i j x y = xs.swap i j li lj := by
    refine Array.ext_getElem? fun t => ?_
    rw [swp_get hi hj, Array.getElem?_swap li lj, ei, ej]
    by_cases e1 : t = j
    · rw [if_pos e1, if_pos e1.symm]
    · rw [if_neg e1, if_neg (show ¬ j = t from fun z => e1 z.symm)]
      by_cases e2 : t = i
      · rw [if_pos e2, if_pos e2.symm]
      · rw [if_neg e2, if_neg (show ¬ i = t from fun z => e2 z.symm)]
  rw [e]
  exact (Array.swap_perm li lj).toList
theorem UP.up {xs : Array Value} {pos : Nat} (u : UP k xs pos) (h0 : 0 < pos) (hl : pos < xs.size) {p x : Value} (hp : xs[(pos - 1) / 2]? = some p) (hx : xs[pos]? = some x) (lt : ¬ Le3 (rk k xs ((pos - 1) / 2)) (rk k xs pos)) : UP k (swp xs ((pos - 1) / 2) pos p x) ((pos - 1) / 2) := by
  have le := Le3.total lt
  have g := rk_swp (k := k) hp hx
  refine ⟨fun i i0 i1 ne => ?_, fun c c0 c1 ec q0 => ?_⟩
  · rw [swp_size] at i1
    rw [g, g]
    by_cases e1 : i = pos
    · subst e1
      rw [if_neg (by omega), if_pos rfl, if_pos rfl]
      exact le
    · rw [if_neg e1, if_neg ne]
      by_cases e2 : (i - 1) / 2 = pos
      · rw [if_pos e2]
        exact u.2 i i0 i1 e2 h0
      · rw [if_neg e2]
        by_cases e3 : (i - 1) / 2 = (pos - 1) / 2
        · rw [if_pos e3]
          have := u.1 i i0 i1 e1
          rw [e3] at this
          exact le.trans this
        · rw [if_neg e3]
          exact u.1 i i0 i1 e1
  · rw [swp_size] at c1
    rw [g, g]
    have hpp := u.1 ((pos - 1) / 2) q0 (by omega) (by omega)
    rw [if_neg (by omega), if_neg (by omega)]
    by_cases e1 : c = pos
    · rw [if_pos e1]
      exact hpp
    · rw [if_neg e1, if_neg (by omega)]
      have := u.1 c c0 c1 e1
      rw [ec] at this
      exact hpp.trans this
theorem DN.leaf {xs : Array Value} {pos : Nat} (d : DN k xs pos) (h : ¬ pos < xs.size / 2) : UP k xs pos :=
  ⟨fun i i0 i1 ne => d.1 i i0 i1 ne (by omega), fun c c0 c1 ec q0 => d.2 c c0 c1 ec q0⟩
theorem DN.down {xs : Array Value} {pos m : Nat} (d : DN k xs pos) (hm : m = 2 * pos + 1 ∨ m = 2 * pos + 2) (hl : m < xs.size) {x y : Value} (hx : xs[m]? = some x) (hy : xs[pos]? = some y) (le : ∀ c, 0 < c → c < xs.size → (c - 1) / 2 = pos → Le3 (rk k xs m) (rk k xs c)) : DN k (swp xs m pos x y) m := by
  have g := rk_swp (k := k) hx hy
  refine ⟨fun i i0 i1 ne ne2 => ?_, fun c c0 c1 ec q0 => ?_⟩
  · rw [swp_size] at i1
    rw [g, g]
    by_cases e1 : i = pos
    · subst e1
      rw [if_neg (by omega), if_neg (by omega), if_pos rfl]
      exact d.2 m (by omega) hl (by omega) i0
    · rw [if_neg e1, if_neg ne]
      by_cases e2 : (i - 1) / 2 = pos
      · rw [if_pos e2]
        exact le i i0 i1 e2
      · rw [if_neg e2, if_neg ne2]
        exact d.1 i i0 i1 e1 e2
  · rw [swp_size] at c1
    rw [g, g]
    rw [if_pos (by omega), if_neg (by omega), if_neg (by omega)]
    have := d.1 c c0 c1 (by omega) (by omega)
    rw [ec] at this
    exact this
/-- the first item is a least one -/
theorem HP.least {xs : Array Value} (h : HP k xs) : ∀ i, i < xs.size → Le3 (rk k xs 0) (rk k xs i)
  | 0, _ => Le3.refl _
  | i + 1, hi => by
    have h1 := h (i + 1) (by omega) hi
    have h2 := HP.least h ((i + 1 - 1) / 2) (by omega)
    exact h2.trans h1
end
end Hpq
namespace Hpq
open PySem PySem.Spec PyProof.Rows PySem.W
/-! ### items: tuples of three whole numbers -/
def t3 (p : Int × Int × Int) : PyData := .tuple [.int p.1, .int p.2.1, .int p.2.2]
theorem lex_ii (i j : Int) (r t : List (Int ⊕ List Nat)) : PyProof.Rows.lexLt itemOrd (.inl i :: r) (.inl j :: t) = (decide (i < j) || (!decide (j < i) && PyProof.Rows.lexLt itemOrd r t)) := PyProof.Rows.lex_cons (O := itemOrd) _ _ _ _
theorem t3_lt (p q : Int × Int × Int) : dataLt (t3 p) (t3 q) = !decide (Le3 q p) := by
  obtain ⟨a, b, c⟩ := p
  obtain ⟨x, y, z⟩ := q
  have e : dataLt (t3 (a, b, c)) (t3 (x, y, z)) = PyProof.Rows.lexLt itemOrd [.inl 1, .inl a, .inl 1, .inl b, .inl 1, .inl c, .inl 0] [.inl 1, .inl x, .inl 1, .inl y, .inl 1, .inl z, .inl 0] := by
    simp [dataLt, t3, keyToks, keyToksAll]
  have e0 : PyProof.Rows.lexLt itemOrd ([] : List (Int ⊕ List Nat)) [] = false := rfl
  rw [e, lex_ii, lex_ii, lex_ii, lex_ii, lex_ii, lex_ii, lex_ii, e0, Bool.eq_iff_iff]
  unfold Le3
  have h1 : decide ((1 : Int) < 1) = false := by decide
  have h0 : decide ((0 : Int) < 0) = false := by decide
  rw [h1, h0]
  by_cases a1 : a < x
  · have a2 : ¬ (x < a) := by omega
    have a3 : ¬ (x = a) := by omega
    simp [a1, a2, a3]
  · by_cases a2 : x < a
    · have a3 : ¬ (x = a) := by omega
      simp [a1, a2, a3]
    · have a3 : x = a := by omega
      subst a3
      by_cases b1 : b < y
      · have b2 : ¬ (y < b) := by omega
        have b3 : ¬ (y = b) := by omega
        simp [b1, b2, b3]
      · by_cases b2 : y < b
        · have b3 : ¬ (y = b) := by omega
          simp [b1, b2, b3]
        · have b3 : y = b := by omega
          subst b3
          simp
/-- the tuple at an item's address, its numbers told by k -/
def Trip (k : Value → Int × Int × Int) (h : Heap) (v : Value) : Prop := ∃ (t : Addr) (o : Obj) (n : Nat) (t1 t2 t3 : Tok), v = .ref t ∧ h.get? t = some o ∧ o.cls = .type "tuple" ∧ o.data = .seq #[.int (k v).1 t1, .int (k v).2.1 t2, .int (k v).2.2 t3] n
theorem Trip.reads {k : Value → Int × Int × Int} {h : Heap} {v : Value} (t : Trip k h v) : ∃ as, Reads h v (t3 (k v)) as := by
  obtain ⟨a, o, n, t1, t2, t3', rfl, ho, hc, hd⟩ := t
  exact ⟨_, .tuple ho hc hd (.cons (.int _ _) (.cons (.int _ _) (.cons (.int _ _) .nil)))⟩
theorem Trip.keep {k : Value → Int × Int × Int} {h h' : Heap} {v : Value} {a : Addr} {o : Obj} (ha : h.get? a = some o) (hc : o.cls = .type "list") (kp : ∀ b u, b ≠ a → h.get? b = some u → h'.get? b = some u) (t : Trip k h v) : Trip k h' v := by
  obtain ⟨b, u, n, t1, t2, t3', e, hb, hbc, hd⟩ := t
  refine ⟨b, u, n, t1, t2, t3', e, kp b u (fun z => ?_) hb, hbc, hd⟩
  rw [z, ha] at hb
  cases hb
  rw [hc] at hbc
  exact absurd hbc (by decide)
/-- the list of items -/
def lo (dct : Option Addr) (n : Nat) (sl : Array (Option Value)) (xs : Array Value) : Obj := { cls := .type "list", dict := dct, data := .seq xs n, slots := sl }
section
variable {prog : Program} {w : World} {A : Around} {E : Value → Shared → Prop} {s : Shared} {k : Value → Int × Int × Int}
theorem isinst_list : isSubtype (.type "list") (.type "list") = pure true := by
  rw [isSubtype_type]
  kernel_rfl
/-- two items compared -/
theorem less {x y : Value} {Q : Bool → Shared → Prop} (hu : A.units + 1 < cLine) (hx : Trip k s.heap x) (hy : Trip k s.heap y) (q : Q (!decide (Le3 (k y) (k x))) s) :
    wpAny (model prog w) A (holding [x, y] (do truthOfDropped (← richCompare .Lt x y))) Q E s := by
  obtain ⟨as, ra⟩ := hx.reads
  obtain ⟨bs, rb⟩ := hy.reads
  refine wpAny_holding (wpAny_bind (lt_data ra rb (by rfl) (by intro z; cases z) (by show A.units + min 1 1 < cLine; omega) ?_))
  rw [t3_lt]
  exact wpAny_truthy_bool q
theorem swap_heap {a : Addr} {dct : Option Addr} {n : Nat} {sl : Array (Option Value)} {xs : Array Value} {h : Heap} (ha : h.get? a = some (lo dct n sl xs)) (i j : Nat) (x y : Value) :
    (h.update a (Obj.mapSeq fun xs => (xs.setIfInBounds i y).setIfInBounds j x)).get? a = some (lo dct n sl (swp xs i j x y)) ∧ ∀ b u, b ≠ a → h.get? b = some u → (h.update a (Obj.mapSeq fun xs => (xs.setIfInBounds i y).setIfInBounds j x)).get? b = some u := by
  refine ⟨?_, fun b u ne e => (Heap.get?_update_other _ _ (fun z => ne z.symm)).trans e⟩
  rw [Heap.get?_update_self _ ha rfl]
  congr 1
  show Obj.mk _ _ (.seq _ (if (swp xs i j x y).size == xs.size then n else n + 1)) _ = _
  rw [swp_size, if_pos (by simp)]
  rfl
end
end Hpq
namespace Hpq
open PySem PySem.Spec PyProof.Rows PySem.W
/-- an item by its place -/
def pick (xs : Array Value) (i : Nat) : Sem Value := (xs[i]?).elim (unsupported "internal:_heapq.index") pure
theorem pick_at {xs : Array Value} {i : Nat} {x : Value} (h : xs[i]? = some x) : pick xs i = pure x := by
  unfold pick
  rw [h]
  rfl
section
variable {prog : Program} {w : World} {A : Around} {E : Value → Shared → Prop} {k : Value → Int × Int × Int} {a : Addr} {dct : Option Addr} {n : Nat} {sl : Array (Option Value)} {res : Value}
theorem sift_up (hu : A.in1.units + 1 < cLine) {R : Result → Shared → Prop} : ∀ (pos : Nat) (xs : Array Value) (s : Shared), s.heap.get? a = some (lo dct n sl xs) → (∀ (i : Nat) (v : Value), xs[i]? = some v → Trip k s.heap v) → pos < xs.size → xs.size ≤ sizeLine → UP k xs pos →
    (∀ xs' h', h'.get? a = some (lo dct n sl xs') → (∀ b u, b ≠ a → s.heap.get? b = some u → h'.get? b = some u) → h'.objs.size = s.heap.objs.size → HP k xs' → xs'.toList.Perm xs.toList → R (.ok (.ret res)) { s with heap := h' }) →
    codeAny (model prog w) A (.builtin "_heapq.heapify.sift" ⟨[.ref a, .bool false, .bool false, rawInt pos, rawInt 0, res, rawInt (-1)], []⟩) R s := by
  intro pos
  induction pos using Nat.strongRecOn with
  | _ pos ih =>
  intro xs s ha ht hp hz u r
  refine codeAny_builtin entry_sift ?_
  rw [Around.under_plainId plain_sift _]
  show wpAny _ A.in1 (_ >>= _) _ _ s
  refine wpAny_bind ?_
  show wpAny _ A.in1 (seqItems? (.ref a) >>= _) _ _ s
  refine wpAny_bind (wpAny_seqItems ha rfl (wpAny_pure ?_))
  dsimp only
  rw [if_neg (by decide), Int.toNat_natCast]
  by_cases h0 : 0 < pos
  · rw [if_pos (show pos > Int.toNat 0 from h0)]
    have hpar : (pos - 1) / 2 < xs.size := by omega
    have hx : xs[pos]? = some xs[pos] := Array.getElem?_eq_getElem hp
    have hq : xs[(pos - 1) / 2]? = some xs[(pos - 1) / 2] := Array.getElem?_eq_getElem hpar
    generalize xs[pos] = x at hx
    generalize xs[(pos - 1) / 2] = p at hq
    refine wpAny_bind (wpAny_of_eq (a := x) (Eq.trans (by kernel_rfl) (pick_at hx)) ?_)
    refine wpAny_bind (wpAny_of_eq (a := p) (Eq.trans (by kernel_rfl) (pick_at hq)) ?_)
    rw [if_neg (by decide)]
    refine wpAny_bind ?_
    show wpAny _ A.in1 (holding [x, p] _ >>= _) _ _ s
    refine wpAny_bind (less hu (ht _ _ hx) (ht _ _ hq) ?_)
    show wpAny _ A.in1 (_ >>= _) _ _ s
    refine wpAny_bind ?_
    show wpAny _ A.in1 (seqItems? (.ref a) >>= _) _ _ s
    refine wpAny_bind (wpAny_seqItems ha rfl (wpAny_pure ?_))
    dsimp only
    rw [if_neg (by simp)]
    refine wpAny_pure ?_
    by_cases c : Le3 (k p) (k x)
    · rw [decide_eq_true c, if_neg (by decide), if_pos (by decide)]
      exact wpAny_pure (r xs s.heap ha (fun b u _ e => e) rfl (u.stop fun _ => by rw [rk_get hq, rk_get hx]; exact c) (List.Perm.refl _))
    · rw [decide_eq_false c, if_pos (by decide)]
      refine wpAny_bind ?_
      show wpAny _ A.in1 (_ >>= _) _ _ s
      refine wpAny_bind ?_
      show wpAny _ A.in1 (seqItems? (.ref a) >>= _) _ _ s
      refine wpAny_bind (wpAny_seqItems ha rfl (wpAny_pure ?_))
      refine wpAny_bind (wpAny_of_eq (a := p) (Eq.trans (by kernel_rfl) (pick_at hq)) ?_)
      refine wpAny_bind (wpAny_of_eq (a := x) (Eq.trans (by kernel_rfl) (pick_at hx)) ?_)
      obtain ⟨g1, g2⟩ := swap_heap ha ((pos - 1) / 2) pos p x
      have g3 : (s.heap.update a (Obj.mapSeq fun xs => (xs.setIfInBounds ((pos - 1) / 2) x).setIfInBounds pos p)).objs.size = s.heap.objs.size := (Heap.SameBut.update ..).1
      refine wpAny_updateSeq ha rfl ?_ hz (by rw [Array.size_setIfInBounds, Array.size_setIfInBounds]; omega)
      have u2 := u.up h0 hp hq hx (by rw [rk_get hq, rk_get hx]; exact c)
      have pm := swp_perm hq hx
      generalize s.heap.update a (Obj.mapSeq fun xs => (xs.setIfInBounds ((pos - 1) / 2) x).setIfInBounds pos p) = h1 at g1 g2 g3
      refine wpAny_pure ⟨plainId_quiet plain_sift _, ih ((pos - 1) / 2) (by omega) _ { s with heap := h1 } g1 (fun i v hv => ?_) (by rw [swp_size]; exact hpar) (by rw [swp_size]; exact hz) u2 fun xs' h' a1 a2 a3 a4 a5 => r xs' h' a1 (fun b u nb e => a2 b u nb (g2 b u nb e)) (a3.trans g3) a4 (a5.trans pm)⟩
      have hv2 : v ∈ (swp xs ((pos - 1) / 2) pos p x).toList := by
        rw [Array.mem_toList_iff]
        exact Array.mem_of_getElem? hv
      have hv3 := pm.mem_iff.mp hv2
      rw [Array.mem_toList_iff] at hv3
      obtain ⟨j, hj⟩ := Array.mem_iff_getElem?.mp hv3
      exact (ht j v hj).keep ha rfl g2
  · rw [if_neg (show ¬ pos > Int.toNat 0 from h0), if_pos (by decide)]
    exact wpAny_pure (r xs s.heap ha (fun b u _ e => e) rfl (u.stop fun z => absurd z h0) (List.Perm.refl _))
end
end Hpq
namespace Hpq
open PySem PySem.Spec PyProof.Rows PySem.W
section
variable {prog : Program} {w : World} {A : Around} {E : Value → Shared → Prop} {k : Value → Int × Int × Int} {a : Addr} {dct : Option Addr} {n : Nat} {sl : Array (Option Value)} {res : Value}
theorem trips_perm {xs ys : Array Value} {h h' : Heap} (pm : ys.toList.Perm xs.toList) (ha : h.get? a = some (lo dct n sl xs)) (kp : ∀ b u, b ≠ a → h.get? b = some u → h'.get? b = some u) (ht : ∀ (i : Nat) (v : Value), xs[i]? = some v → Trip k h v) : ∀ (i : Nat) (v : Value), ys[i]? = some v → Trip k h' v := fun i v hv => by
  have hv2 : v ∈ ys.toList := by
    rw [Array.mem_toList_iff]
    exact Array.mem_of_getElem? hv
  have hv3 := pm.mem_iff.mp hv2
  rw [Array.mem_toList_iff] at hv3
  obtain ⟨j, hj⟩ := Array.mem_iff_getElem?.mp hv3
  exact (ht j v hj).keep ha rfl kp
theorem sift_down (hu : A.in1.units + 1 < cLine) {R : Result → Shared → Prop} : ∀ (g pos : Nat) (xs : Array Value) (s : Shared), xs.size - pos = g → s.heap.get? a = some (lo dct n sl xs) → (∀ (i : Nat) (v : Value), xs[i]? = some v → Trip k s.heap v) → pos < xs.size → xs.size ≤ sizeLine → DN k xs pos →
    (∀ xs' h', h'.get? a = some (lo dct n sl xs') → (∀ b u, b ≠ a → s.heap.get? b = some u → h'.get? b = some u) → h'.objs.size = s.heap.objs.size → HP k xs' → xs'.toList.Perm xs.toList → R (.ok (.ret res)) { s with heap := h' }) →
    codeAny (model prog w) A (.builtin "_heapq.heapify.sift" ⟨[.ref a, .bool false, .bool true, rawInt pos, rawInt 0, res, rawInt (-1)], []⟩) R s := by
  intro g
  induction g using Nat.strongRecOn with
  | _ g ih =>
  intro pos xs s hg ha ht hp hz u r
  refine codeAny_builtin entry_sift ?_
  rw [Around.under_plainId plain_sift _]
  show wpAny _ A.in1 (_ >>= _) _ _ s
  refine wpAny_bind ?_
  show wpAny _ A.in1 (seqItems? (.ref a) >>= _) _ _ s
  refine wpAny_bind (wpAny_seqItems ha rfl (wpAny_pure ?_))
  dsimp only
  rw [if_pos (by decide), Int.toNat_natCast]
  by_cases h0 : pos < xs.size / 2
  · rw [if_pos h0]
    -- one child goes up
    have go : ∀ m, (m = 2 * pos + 1 ∨ m = 2 * pos + 2) → m < xs.size → (∀ c, 0 < c → c < xs.size → (c - 1) / 2 = pos → Le3 (rk k xs m) (rk k xs c)) → ∀ (x y : Value), xs[m]? = some x → xs[pos]? = some y → ∀ h1, h1.get? a = some (lo dct n sl (swp xs m pos x y)) → (∀ b u, b ≠ a → s.heap.get? b = some u → h1.get? b = some u) → h1.objs.size = s.heap.objs.size →
        codeAny (model prog w) A (.builtin "_heapq.heapify.sift" ⟨[.ref a, .bool false, .bool true, rawInt m, rawInt 0, res, rawInt (-1)], []⟩) R { s with heap := h1 } := fun m hm hml hle x y hx hy h1 g1 g2 g3 => by
      have pm := swp_perm hx hy
      refine ih (xs.size - m) (by omega) m _ { s with heap := h1 } (by rw [swp_size]) g1 (trips_perm pm ha g2 ht) (by rw [swp_size]; exact hml) (by rw [swp_size]; exact hz) (u.down hm hml hx hy hle) fun xs' h' a1 a2 a3 a4 a5 => r xs' h' a1 (fun b u nb e => a2 b u nb (g2 b u nb e)) (a3.trans g3) a4 (a5.trans pm)
    have h1 : 2 * pos + 1 < xs.size := by omega
    have hy : xs[pos]? = some xs[pos] := Array.getElem?_eq_getElem hp
    have hx1 : xs[2 * pos + 1]? = some xs[2 * pos + 1] := Array.getElem?_eq_getElem h1
    generalize xs[pos] = y at hy
    generalize xs[2 * pos + 1] = x1 at hx1
    by_cases h2 : 2 * pos + 1 + 1 < xs.size
    · rw [if_pos h2]
      have hx2 : xs[2 * pos + 1 + 1]? = some xs[2 * pos + 1 + 1] := Array.getElem?_eq_getElem h2
      generalize xs[2 * pos + 1 + 1] = x2 at hx2
      refine wpAny_bind (wpAny_of_eq (a := x1) (Eq.trans (by kernel_rfl) (pick_at hx1)) ?_)
      refine wpAny_bind (wpAny_of_eq (a := x2) (Eq.trans (by kernel_rfl) (pick_at hx2)) ?_)
      rw [if_neg (by decide)]
      refine wpAny_bind ?_
      show wpAny _ A.in1 (holding [x1, x2] _ >>= _) _ _ s
      refine wpAny_bind (less hu (ht _ _ hx1) (ht _ _ hx2) ?_)
      show wpAny _ A.in1 (_ >>= _) _ _ s
      refine wpAny_bind ?_
      show wpAny _ A.in1 (seqItems? (.ref a) >>= _) _ _ s
      refine wpAny_bind (wpAny_seqItems ha rfl (wpAny_pure ?_))
      dsimp only
      rw [if_neg (by simp)]
      refine wpAny_pure ?_
      by_cases c : Le3 (k x2) (k x1)
      · rw [decide_eq_true c, if_pos (by decide)]
        refine wpAny_bind ?_
        show wpAny _ A.in1 (_ >>= _) _ _ s
        refine wpAny_bind ?_
        show wpAny _ A.in1 (seqItems? (.ref a) >>= _) _ _ s
        refine wpAny_bind (wpAny_seqItems ha rfl (wpAny_pure ?_))
        refine wpAny_bind (wpAny_of_eq (a := x2) (Eq.trans (by kernel_rfl) (pick_at hx2)) ?_)
        refine wpAny_bind (wpAny_of_eq (a := y) (Eq.trans (by kernel_rfl) (pick_at hy)) ?_)
        obtain ⟨g1, g2⟩ := swap_heap ha (2 * pos + 1 + 1) pos x2 y
        have g3 : (s.heap.update a (Obj.mapSeq fun xs => (xs.setIfInBounds (2 * pos + 1 + 1) y).setIfInBounds pos x2)).objs.size = s.heap.objs.size := (Heap.SameBut.update ..).1
        refine wpAny_updateSeq ha rfl ?_ hz (by rw [Array.size_setIfInBounds, Array.size_setIfInBounds]; omega)
        refine wpAny_pure ⟨plainId_quiet plain_sift _, go (2 * pos + 1 + 1) (.inr rfl) h2 (fun c' c0 c1 ec => ?_) x2 y hx2 hy _ g1 g2 g3⟩
        have : c' = 2 * pos + 1 ∨ c' = 2 * pos + 1 + 1 := by omega
        rcases this with rfl | rfl
        · rw [rk_get hx1, rk_get hx2]
          exact c
        · exact Le3.refl _
      · rw [decide_eq_false c, if_neg (by decide)]
        refine wpAny_bind ?_
        show wpAny _ A.in1 (_ >>= _) _ _ s
        refine wpAny_bind ?_
        show wpAny _ A.in1 (seqItems? (.ref a) >>= _) _ _ s
        refine wpAny_bind (wpAny_seqItems ha rfl (wpAny_pure ?_))
        refine wpAny_bind (wpAny_of_eq (a := x1) (Eq.trans (by kernel_rfl) (pick_at hx1)) ?_)
        refine wpAny_bind (wpAny_of_eq (a := y) (Eq.trans (by kernel_rfl) (pick_at hy)) ?_)
        obtain ⟨g1, g2⟩ := swap_heap ha (2 * pos + 1) pos x1 y
        have g3 : (s.heap.update a (Obj.mapSeq fun xs => (xs.setIfInBounds (2 * pos + 1) y).setIfInBounds pos x1)).objs.size = s.heap.objs.size := (Heap.SameBut.update ..).1
        refine wpAny_updateSeq ha rfl ?_ hz (by rw [Array.size_setIfInBounds, Array.size_setIfInBounds]; omega)
        refine wpAny_pure ⟨plainId_quiet plain_sift _, go (2 * pos + 1) (.inl rfl) h1 (fun c' c0 c1 ec => ?_) x1 y hx1 hy _ g1 g2 g3⟩
        have : c' = 2 * pos + 1 ∨ c' = 2 * pos + 1 + 1 := by omega
        rcases this with rfl | rfl
        · exact Le3.refl _
        · rw [rk_get hx1, rk_get hx2]
          exact Le3.total c
    · rw [if_neg h2]
      refine wpAny_bind ?_
      show wpAny _ A.in1 (_ >>= _) _ _ s
      refine wpAny_bind ?_
      show wpAny _ A.in1 (seqItems? (.ref a) >>= _) _ _ s
      refine wpAny_bind (wpAny_seqItems ha rfl (wpAny_pure ?_))
      refine wpAny_bind (wpAny_of_eq (a := x1) (Eq.trans (by kernel_rfl) (pick_at hx1)) ?_)
      refine wpAny_bind (wpAny_of_eq (a := y) (Eq.trans (by kernel_rfl) (pick_at hy)) ?_)
      obtain ⟨g1, g2⟩ := swap_heap ha (2 * pos + 1) pos x1 y
      have g3 : (s.heap.update a (Obj.mapSeq fun xs => (xs.setIfInBounds (2 * pos + 1) y).setIfInBounds pos x1)).objs.size = s.heap.objs.size := (Heap.SameBut.update ..).1
      refine wpAny_updateSeq ha rfl ?_ hz (by rw [Array.size_setIfInBounds, Array.size_setIfInBounds]; omega)
      refine wpAny_pure ⟨plainId_quiet plain_sift _, go (2 * pos + 1) (.inl rfl) h1 (fun c' c0 c1 ec => ?_) x1 y hx1 hy _ g1 g2 g3⟩
      have : c' = 2 * pos + 1 := by omega
      rw [this]
      exact Le3.refl _
  · rw [if_neg h0]
    exact wpAny_pure ⟨plainId_quiet plain_sift _, sift_up hu pos xs s ha ht hp hz (u.leaf h0) r⟩
end
end Hpq
namespace Hpq
open PySem PySem.Spec PyProof.Rows PySem.W PySem.Calls
section
variable {prog : Program} {w : World} {A : Around} {E : Value → Shared → Prop} {s : Shared} {k : Value → Int × Int × Int} {a : Addr} {dct : Option Addr} {n : Nat} {sl : Array (Option Value)}
/-- a builtin def that is called, its body ending or going on elsewhere -/
theorem call_fn {id : String} {b : Builtin} {args : List Value} {Q : Value → Shared → Prop} (hk : builtinKind id = none) (hp : plainId id = true) (hb : entryFor table id = some b) (ha : argsOk id ⟨args, []⟩)
    (hc : wpAny (model prog w) A.in1 (b ⟨args, []⟩) (fun fin s' => match fin with
      | .done f => (match (Except.ok f : Result) with | .ok (.ret v) => Q v s' | .ok _ => False | .error e => E e s')
      | .again c' => c'.quiet = true ∧ codeAny (model prog w) A c' (fun r s' => match r with | .ok (.ret v) => Q v s' | .ok _ => False | .error e => E e s') s') E s) : wpAny (model prog w) A (call (.builtin id) args) Q E s := by
  refine wpAny_call (codeAny_call_builtin hp hb ?_)
  simp only [checkBuiltinCall, hk]
  cases hsig : Manifest.signature? id with
  | none => exact wpAny_pure hc
  | some sig =>
    simp only [argsOk, hsig] at ha
    have h2 : Bind.checkArgs id sig ⟨args, []⟩ = pure () := ha
    show wpAny _ A.in1 (Bind.checkArgs id sig ⟨args, []⟩) _ _ s
    rw [h2]
    exact wpAny_pure hc
theorem call_push (hu : A.in1.units + 1 < cLine) {xs : Array Value} {item : Value} (ha : s.heap.get? a = some (lo dct n sl xs)) (ht : ∀ (i : Nat) (v : Value), xs[i]? = some v → Trip k s.heap v) (hi : Trip k s.heap item) (hz : xs.size + 1 ≤ sizeLine) (hp : HP k xs) {Q : Value → Shared → Prop}
    (q : ∀ xs' h' n', h'.get? a = some (lo dct n' sl xs') → (∀ b u, b ≠ a → s.heap.get? b = some u → h'.get? b = some u) → h'.objs.size = s.heap.objs.size → HP k xs' → xs'.toList.Perm (xs.toList ++ [item]) → Q .none { s with heap := h' }) :
    wpAny (model prog w) A (call (.builtin "_heapq.heappush") [.ref a, item]) Q E s := by
  refine call_fn kind_push plain_push entry_push (args_push _ _) ?_
  show wpAny _ A.in1 (_ >>= _) _ _ s
  refine wpAny_bind ?_
  show wpAny _ A.in1 (_ >>= _) _ _ s
  refine wpAny_bind (wpAny_of_eq (a := ()) (by kernel_rfl) ?_)
  refine wpAny_bind (wpAny_of_eq (a := ()) (by kernel_rfl) ?_)
  dsimp only
  refine wpAny_bind ?_
  show wpAny _ A.in1 (isInstance _ _ >>= _) _ _ s
  refine wpAny_bind (wpAny_isInstance (T := "list") ⟨_, ha, rfl⟩ isinst_list ?_)
  refine wpAny_pure (wpAny_pure ?_)
  dsimp only
  refine wpAny_bind (wpAny_updateSeq ha rfl ?_ (by omega) (by rw [Array.size_push]; omega))
  have g1 : (s.heap.update a (Obj.mapSeq fun xs => xs.push item)).get? a = some (lo dct (n + 1) sl (xs.push item)) := by
    rw [Heap.get?_update_self _ ha rfl]
    congr 1
    show Obj.mk _ _ (.seq _ (if (xs.push item).size == xs.size then n else n + 1)) _ = _
    rw [if_neg (by rw [Array.size_push]; simp)]
    rfl
  have g2 : ∀ b u, b ≠ a → s.heap.get? b = some u → (s.heap.update a (Obj.mapSeq fun xs => xs.push item)).get? b = some u := fun b u ne e => (Heap.get?_update_other _ _ (fun z => ne z.symm)).trans e
  have g3 : (s.heap.update a (Obj.mapSeq fun xs => xs.push item)).objs.size = s.heap.objs.size := (Heap.SameBut.update ..).1
  generalize s.heap.update a (Obj.mapSeq fun xs => xs.push item) = h1 at g1 g2 g3
  have get : ∀ i, (xs.push item)[i]? = if i = xs.size then some item else xs[i]? := fun i => Array.getElem?_push
  have rkp : ∀ i, i < xs.size → rk k (xs.push item) i = rk k xs i := fun i hi => by
    unfold rk
    rw [Array.getD_eq_getD_getElem?, get, if_neg (by omega), Array.getD_eq_getD_getElem?]
  refine wpAny_bind ?_
  show wpAny _ A.in1 (seqItems? (.ref a) >>= _) _ _ _
  refine wpAny_bind (wpAny_seqItems g1 rfl (wpAny_pure ?_))
  refine wpAny_pure ⟨plainId_quiet plain_sift _, sift_up (k := k) hu ((xs.push item).size - 1) (xs.push item) { s with heap := h1 } g1 (fun i v hv => ?_) (by rw [Array.size_push]; omega) (by rw [Array.size_push]; exact hz) ⟨fun i i0 i1 ne => ?_, fun c c0 c1 ec q0 => ?_⟩ fun xs' h' a1 a2 a3 a4 a5 => ?_⟩
  · rw [get] at hv
    by_cases e : i = xs.size
    · rw [if_pos e] at hv
      rw [← Option.some.inj hv]
      exact hi.keep ha rfl g2
    · rw [if_neg e] at hv
      exact (ht i v hv).keep ha rfl g2
  · rw [Array.size_push] at i1 ne
    rw [rkp _ (by omega), rkp _ (by omega)]
    exact hp i i0 (by omega)
  · rw [Array.size_push] at c1 ec
    omega
  · refine q xs' h' (n + 1) a1 (fun b u nb e => a2 b u nb (g2 b u nb e)) (a3.trans g3) a4 ?_
    rw [Array.toList_push] at a5
    exact a5
theorem call_pop (hu : A.in1.units + 1 < cLine) {xs : Array Value} {first : Value} (ha : s.heap.get? a = some (lo dct n sl xs)) (ht : ∀ (i : Nat) (v : Value), xs[i]? = some v → Trip k s.heap v) (hf : xs[0]? = some first) (hz : xs.size ≤ sizeLine) (hp : HP k xs) {Q : Value → Shared → Prop}
    (q : ∀ xs' h' n', h'.get? a = some (lo dct n' sl xs') → (∀ b u, b ≠ a → s.heap.get? b = some u → h'.get? b = some u) → h'.objs.size = s.heap.objs.size → HP k xs' → xs.toList.Perm (first :: xs'.toList) → Q first { s with heap := h' }) :
    wpAny (model prog w) A (call (.builtin "_heapq.heappop") [.ref a]) Q E s := by
  refine call_fn kind_pop plain_pop entry_pop (args_pop _) ?_
  show wpAny _ A.in1 (_ >>= _) _ _ s
  refine wpAny_bind ?_
  show wpAny _ A.in1 (_ >>= _) _ _ s
  refine wpAny_bind (wpAny_of_eq (a := .ref a) (by kernel_rfl) ?_)
  refine wpAny_bind ?_
  show wpAny _ A.in1 (isInstance _ _ >>= _) _ _ s
  refine wpAny_bind (wpAny_isInstance (T := "list") ⟨_, ha, rfl⟩ isinst_list ?_)
  refine wpAny_pure (wpAny_pure ?_)
  dsimp only
  refine wpAny_bind ?_
  show wpAny _ A.in1 (seqItems? (.ref a) >>= _) _ _ s
  refine wpAny_bind (wpAny_seqItems ha rfl (wpAny_pure ?_))
  have h0 : 0 < xs.size := (Array.getElem?_eq_some_iff.mp hf).1
  obtain ⟨last, hl⟩ : ∃ last, xs.back? = some last := ⟨xs[xs.size - 1], by rw [Array.back?_eq_getElem?, Array.getElem?_eq_getElem (by omega)]⟩
  rw [hl]
  dsimp only
  have hlast : xs[xs.size - 1]? = some last := by rw [← Array.back?_eq_getElem?]; exact hl
  refine wpAny_bind (wpAny_updateSeq ha rfl ?_ hz (by rw [Array.size_pop]; omega))
  have g1 : (s.heap.update a (Obj.mapSeq fun xs => xs.pop)).get? a = some (lo dct (n + 1) sl xs.pop) := by
    rw [Heap.get?_update_self _ ha rfl]
    congr 1
    show Obj.mk _ _ (.seq _ (if xs.pop.size == xs.size then n else n + 1)) _ = _
    rw [if_neg (by rw [Array.size_pop]; simp; omega)]
    rfl
  have g2 : ∀ b u, b ≠ a → s.heap.get? b = some u → (s.heap.update a (Obj.mapSeq fun xs => xs.pop)).get? b = some u := fun b u ne e => (Heap.get?_update_other _ _ (fun z => ne z.symm)).trans e
  have g3 : (s.heap.update a (Obj.mapSeq fun xs => xs.pop)).objs.size = s.heap.objs.size := (Heap.SameBut.update ..).1
  generalize s.heap.update a (Obj.mapSeq fun xs => xs.pop) = h1 at g1 g2 g3
  have getp : ∀ i, i < xs.size - 1 → xs.pop[i]? = xs[i]? := fun i hi => by
    rw [Array.getElem?_pop, if_pos hi]
  by_cases h1s : xs.size = 1
  · rw [if_pos (by simp [h1s])]
    have e1 : last = first := by
      rw [h1s] at hlast
      rw [hf] at hlast
      exact (Option.some.inj hlast).symm
    subst e1
    have ep : xs.pop = #[] := Array.eq_empty_of_size_eq_zero (by rw [Array.size_pop]; omega)
    rw [ep] at g1
    refine wpAny_pure (q #[] h1 (n + 1) g1 g2 g3 (fun i i0 i1 => absurd i1 (Nat.not_lt_zero _)) ?_)
    have : xs = #[last] := by
      refine Array.ext_getElem? fun i => ?_
      match i with
      | 0 => rw [hf]; rfl
      | i + 1 => rw [Array.getElem?_eq_none (by omega)]; rfl
    rw [this]
  · rw [if_neg (by simp [h1s])]
    refine wpAny_bind (wpAny_of_eq (a := first) (Eq.trans (by kernel_rfl) (pick_at hf)) ?_)
    refine wpAny_bind (wpAny_updateSeq g1 rfl ?_ (by rw [Array.size_pop]; omega) (by rw [Array.size_setIfInBounds, Array.size_pop]; omega))
    have k1 : (h1.update a (Obj.mapSeq fun xs => xs.setIfInBounds 0 last)).get? a = some (lo dct (n + 1) sl (xs.pop.setIfInBounds 0 last)) := by
      rw [Heap.get?_update_self _ g1 rfl]
      congr 1
      show Obj.mk _ _ (.seq _ (if (xs.pop.setIfInBounds 0 last).size == xs.pop.size then n + 1 else n + 1 + 1)) _ = _
      rw [if_pos (by simp)]
      rfl
    have k2 : ∀ b u, b ≠ a → h1.get? b = some u → (h1.update a (Obj.mapSeq fun xs => xs.setIfInBounds 0 last)).get? b = some u := fun b u ne e => (Heap.get?_update_other _ _ (fun z => ne z.symm)).trans e
    have k3 : (h1.update a (Obj.mapSeq fun xs => xs.setIfInBounds 0 last)).objs.size = h1.objs.size := (Heap.SameBut.update ..).1
    generalize h1.update a (Obj.mapSeq fun xs => xs.setIfInBounds 0 last) = h2 at k1 k2 k3
    have gets : ∀ i, (xs.pop.setIfInBounds 0 last)[i]? = if i = 0 then some last else if i < xs.size - 1 then xs[i]? else none := fun i => by
      rw [Array.getElem?_setIfInBounds, Array.size_pop]
      by_cases e : i = 0
      · subst e
        rw [if_pos rfl, if_pos (by omega), if_pos rfl]
      · rw [if_neg (show ¬ 0 = i from fun z => e z.symm), if_neg e, Array.getElem?_pop]
    have sz : (xs.pop.setIfInBounds 0 last).size = xs.size - 1 := by rw [Array.size_setIfInBounds, Array.size_pop]
    have rks : ∀ i, 0 < i → i < xs.size - 1 → rk k (xs.pop.setIfInBounds 0 last) i = rk k xs i := fun i i0 hi => by
      unfold rk
      rw [Array.getD_eq_getD_getElem?, gets, if_neg (by omega), if_pos hi, Array.getD_eq_getD_getElem?]
    have key : ∀ b u, b ≠ a → s.heap.get? b = some u → h2.get? b = some u := fun b u nb e => k2 b u nb (g2 b u nb e)
    have pm : xs.toList.Perm (first :: (xs.pop.setIfInBounds 0 last).toList) := by
      rw [Array.toList_setIfInBounds, Array.toList_pop]
      have e0 : xs.toList[0]? = some first := by rw [Array.getElem?_toList]; exact hf
      have el : xs.toList.getLast? = some last := by rw [List.getLast?_eq_getElem?, Array.length_toList, Array.getElem?_toList]; exact hlast
      have hlen : xs.toList.length = xs.size := Array.length_toList
      generalize xs.toList = L at e0 el hlen
      match L, e0, el, hlen with
      | f :: r, e0, el, hlen =>
        have e0 : f = first := Option.some.inj e0
        subst e0
        have rne : r ≠ [] := fun z => by rw [z] at hlen; simp at hlen; omega
        have edl : (f :: r).dropLast = f :: r.dropLast := List.dropLast_cons_of_ne_nil rne
        rw [edl, List.set_cons_zero]
        have er : r = r.dropLast ++ [last] := by
          have h2 : r.getLast? = some last := by
            rw [List.getLast?_cons] at el
            rw [List.getLast?_eq_some_getLast rne] at el ⊢
            simpa using el
          have h3 : r.getLast rne = last := by
            rw [List.getLast?_eq_some_getLast rne] at h2
            exact Option.some.inj h2
          rw [← h3]
          exact (List.dropLast_concat_getLast rne).symm
        refine List.Perm.cons _ ?_
        have : (r.dropLast ++ [last]).Perm (last :: r.dropLast) := List.perm_append_comm
        rw [← er] at this
        exact this
    refine wpAny_pure ⟨plainId_quiet plain_sift _, sift_down (k := k) hu _ 0 (xs.pop.setIfInBounds 0 last) { s with heap := h2 } rfl k1 (fun i v hv => ?_) (by rw [sz]; omega) (by rw [sz]; omega) ⟨fun i i0 i1 ne ne2 => ?_, fun c c0 c1 ec q0 => absurd q0 (Nat.lt_irrefl 0)⟩ fun xs' h' a1 a2 a3 a4 a5 => ?_⟩
    · rw [gets] at hv
      by_cases e : i = 0
      · rw [if_pos e] at hv
        rw [← Option.some.inj hv]
        exact (ht _ _ hlast).keep ha rfl key
      · rw [if_neg e] at hv
        split at hv
        · exact (ht i v hv).keep ha rfl key
        · cases hv
    · rw [sz] at i1
      rw [rks _ (by omega) (by omega), rks _ i0 i1]
      exact hp i i0 (by omega)
    · exact q xs' h' (n + 1) a1 (fun b u nb e => a2 b u nb (key b u nb e)) (a3.trans (k3.trans g3)) a4 (pm.trans (List.Perm.cons _ a5.symm))
end
end Hpq
namespace Hpq
open PySem PySem.Spec PyProof.Rows L2
/-! ### heappush and heappop over a tracked list of triples -/
abbrev Tri := Int × Int × Int
def tup3 (p : Tri) : HO := .tup [.int p.1, .int p.2.1, .int p.2.2]
def HpL (ps : List Tri) : Prop := ∀ (i : Nat) (p q : Tri), 0 < i → ps[(i - 1) / 2]? = some p → ps[i]? = some q → Le3 p q
def TriI (H : Hp) (us : List Addr) (ps : List Tri) : Prop := us.length = ps.length ∧ ∀ (j : Nat) (p : Tri), ps[j]? = some p → ∃ r, us[j]? = some r ∧ H r = some (tup3 p)
structure QAt (H : Hp) (a : Addr) (us : List Addr) (ps : List Tri) : Prop where
  hl : H a = some (.lst (us.map V.ref))
  tr : TriI H us ps
  hp : HpL ps
def kH (H : Hp) : Value → Tri
  | .ref t => match H t with
    | some (.tup [.int i, .int j, .int l]) => (i, j, l)
    | _ => (0, 0, 0)
  | _ => (0, 0, 0)
theorem kH_at {H : Hp} {t : Addr} {p : Tri} (h : H t = some (tup3 p)) : kH H (.ref t) = p := by
  unfold kH
  simp only [h, tup3]
def adr : Value → Addr
  | .ref t => t
  | _ => 0
theorem refs_eq : ∀ {us : List Addr} {its : List Value}, Vals (us.map V.ref) its → its = us.map Value.ref
  | [], _, .nil => rfl
  | _ :: _, _, .cons h t => by rw [List.map_cons, ← refs_eq t]; congr 1
theorem TriI.kmap {H : Hp} : ∀ {us : List Addr} {ps : List Tri}, TriI H us ps → (us.map Value.ref).map (kH H) = ps
  | [], [], _ => rfl
  | [], _ :: _, t => nomatch t.1
  | _ :: _, [], t => nomatch t.1
  | u :: us, p :: ps, t => by
    obtain ⟨r, e1, e2⟩ := t.2 0 p rfl
    cases (Option.some.inj e1 : u = r)
    rw [List.map_cons, List.map_cons, kH_at e2, TriI.kmap ⟨Nat.succ.inj t.1, fun j q e => t.2 (j + 1) q e⟩]
theorem TriI.at {H : Hp} {us : List Addr} {ps : List Tri} (t : TriI H us ps) {u : Addr} (h : u ∈ us) : ∃ p, H u = some (tup3 p) := by
  obtain ⟨j, hj⟩ := List.mem_iff_getElem?.mp h
  have hl := (List.getElem?_eq_some_iff.mp hj).1
  obtain ⟨r, e1, e2⟩ := t.2 j (ps[j]'(by rw [← t.1]; exact hl)) (List.getElem?_eq_getElem _)
  rw [hj] at e1
  cases e1
  exact ⟨_, e2⟩
section
variable {X : Cx}
theorem trip_of {pins : List (Addr × Obj)} {σ : L2.St} {H : Hp} {s : Shared} (I : Inv X pins σ H s) {t : Addr} {p : Tri} (h : H t = some (tup3 p)) : Trip (kH H) s.heap (.ref t) := by
  obtain ⟨_, its, rv, o, ho, hc, n, hd⟩ := I.hok t _ h
  cases rv with
  | cons r1 q1 =>
    cases q1 with
    | cons r2 q2 =>
      cases q2 with
      | cons r3 q3 =>
        cases q3
        obtain ⟨t1, rfl⟩ := r1
        obtain ⟨t2, rfl⟩ := r2
        obtain ⟨t3, rfl⟩ := r3
        refine ⟨t, o, n, t1, t2, t3, rfl, ho, hc, ?_⟩
        rw [kH_at h]
        exact hd
/-- what a sorted array says of the tracked list -/
theorem back {H : Hp} {a : Addr} {xs' : Array Value} (hr : ∀ v ∈ xs'.toList, ∃ u p, v = .ref u ∧ H u = some (tup3 p)) (hp : HP (kH H) xs') (ha : ∃ l, H a = some (.lst l)) :
    Vals ((xs'.toList.map adr).map V.ref) xs'.toList ∧ QAt (upd H a (.lst ((xs'.toList.map adr).map V.ref))) a (xs'.toList.map adr) (xs'.toList.map (kH H)) := by
  have e : (xs'.toList.map adr).map Value.ref = xs'.toList := by
    rw [List.map_map]
    have : xs'.toList.map (Value.ref ∘ adr) = xs'.toList.map id := List.map_congr_left fun v hv => by
      obtain ⟨u, p, rfl, _⟩ := hr v hv
      rfl
    rw [this, List.map_id]
  have vals : ∀ us : List Addr, Vals (us.map V.ref) (us.map Value.ref) := fun us => by
    induction us with
    | nil => exact .nil
    | cons u us ih => exact .cons rfl ih
  refine ⟨by have := vals (xs'.toList.map adr); rwa [e] at this, upd_same, ⟨by rw [List.length_map, List.length_map], fun j p hj => ?_⟩, fun i p q i0 h1 h2 => ?_⟩
  · rw [List.getElem?_map] at hj
    cases ev : xs'.toList[j]? with
    | none => rw [ev] at hj; cases hj
    | some v =>
      rw [ev] at hj
      obtain ⟨u, p', rfl, hu⟩ := hr v (List.mem_of_getElem? ev)
      have hj : kH H (.ref u) = p := Option.some.inj hj
      rw [kH_at hu] at hj
      subst hj
      refine ⟨u, by rw [List.getElem?_map, ev]; rfl, ?_⟩
      obtain ⟨l, hl⟩ := ha
      rw [upd_ne (fun z => by rw [z, hl] at hu; cases hu)]
      exact hu
  · have get : ∀ {j : Nat} {r : Tri}, (xs'.toList.map (kH H))[j]? = some r → j < xs'.size ∧ rk (kH H) xs' j = r := fun {j r} h => by
      rw [List.getElem?_map, Array.getElem?_toList] at h
      cases ev : xs'[j]? with
      | none => rw [ev] at h; cases h
      | some v =>
        rw [ev] at h
        exact ⟨(Array.getElem?_eq_some_iff.mp ev).1, by rw [rk_get ev]; exact Option.some.inj h⟩
    obtain ⟨l1, e1⟩ := get h1
    obtain ⟨l2, e2⟩ := get h2
    rw [← e1, ← e2]
    exact hp i i0 l2
theorem there {H : Hp} {us : List Addr} {ps : List Tri} {its : Array Value} (e : its.toList = us.map Value.ref) (t : TriI H us ps) (hp : HpL ps) : HP (kH H) its := fun i i0 i1 => by
  have get : ∀ {j : Nat}, j < its.size → ps[j]? = some (rk (kH H) its j) := fun {j} h => by
    have hk := t.kmap
    rw [← e] at hk
    rw [← hk, List.getElem?_map, Array.getElem?_toList, Array.getElem?_eq_getElem h, rk_get (Array.getElem?_eq_getElem h)]
    rfl
  exact hp i _ _ i0 (get (by omega)) (get i1)
def rPush : List V → Hp → VK → Prop := fun vs H Q => ∃ (a t : Addr) (us : List Addr) (ps : List Tri) (p : Tri), vs = [.ref a, .ref t] ∧ QAt H a us ps ∧ H t = some (tup3 p) ∧ us.length < sizeLine ∧
  ∀ us' ps', QAt (upd H a (.lst (us'.map V.ref))) a us' ps' → ps'.Perm (ps ++ [p]) → us'.Perm (us ++ [t]) → Q .non (upd H a (.lst (us'.map V.ref)))
theorem two {x y : V} {us : List Value} (r : Vals [x, y] us) : ∃ u v, us = [u, v] ∧ RelV x u ∧ RelV y v := by
  cases r with
  | cons r1 q =>
    cases q with
    | cons r2 q =>
      cases q
      exact ⟨_, _, rfl, r1, r2⟩
theorem cr_push (hu : X.A.units + 64 < cLine) : CallR X (.builtin "_heapq.heappush") rPush := by
  intro pins s σ H vs us0 Q I r h
  obtain ⟨a, t, us, ps, p, rfl, qa, ht, hz, q⟩ := h
  obtain ⟨u1, u2, rfl, r1, r2⟩ := two r
  obtain rfl : u1 = Value.ref a := r1
  obtain rfl : u2 = Value.ref t := r2
  obtain ⟨its, n, rv, hg, hlen⟩ := I.lst qa.hl
  have ei := refs_eq rv
  have trs : ∀ v ∈ its, ∃ u p, v = Value.ref u ∧ H u = some (tup3 p) := fun v hv => by
    rw [ei] at hv
    obtain ⟨u, hu, rfl⟩ := List.mem_map.mp hv
    obtain ⟨p, hp⟩ := qa.tr.at hu
    exact ⟨u, p, rfl, hp⟩
  have lits : its.length = us.length := by rw [ei, List.length_map]
  refine call_push (k := kH H) (dct := none) (n := n) (sl := #[]) (xs := its.toArray) (by show X.A.in1.units + 1 < cLine; have : X.A.in1.units ≤ X.A.units + 1 := Nat.le_refl _; omega) hg (fun i v hv => ?_) (trip_of I ht) (by rw [List.size_toArray, lits]; omega) (there (us := us) (by simpa using ei) qa.tr qa.hp) fun xs' h' n' a1 a2 a3 a4 a5 => ?_
  · obtain ⟨u, p, rfl, hu⟩ := trs v (List.mem_of_getElem? (by simpa using hv))
    exact trip_of I hu
  · have hr' : ∀ v ∈ xs'.toList, ∃ u p, v = Value.ref u ∧ H u = some (tup3 p) := fun v hv => by
      have hv := a5.mem_iff.mp hv
      rcases List.mem_append.mp hv with hv | hv
      · exact trs v (by simpa using hv)
      · rw [List.mem_singleton.mp hv]
        exact ⟨t, p, rfl, ht⟩
    obtain ⟨b1, b2⟩ := back (a := a) hr' a4 ⟨_, qa.hl⟩
    have lx : xs'.toList.length = us.length + 1 := by rw [a5.length_eq, List.length_append, List.toList_toArray, lits]; rfl
    refine ⟨.non, _, I.write (x := a) (e := a) (o := .lst ((xs'.toList.map adr).map V.ref)) (t' := s.toks) (by rw [qa.hl]; exact True.intro) (.inl rfl) a2 ⟨_, a1⟩ ⟨by rw [List.length_map, List.length_map, lx]; omega, xs'.toList, n', b1, by rw [Array.toArray_toList]; exact a1⟩, rfl, q _ _ b2 ?_ ?_⟩
    · have := a5.map (kH H)
      rw [List.map_append, List.toList_toArray, ei, qa.tr.kmap] at this
      rw [show (List.map (kH H) [Value.ref t]) = [p] by rw [List.map_cons, kH_at ht]; rfl] at this
      exact this
    · have := a5.map adr
      rw [List.map_append, List.toList_toArray, ei, List.map_map] at this
      have e2 : us.map (adr ∘ Value.ref) = us.map id := List.map_congr_left fun _ _ => rfl
      rw [e2, List.map_id] at this
      exact this
def rPop : List V → Hp → VK → Prop := fun vs H Q => ∃ (a t : Addr) (us : List Addr) (ps : List Tri) (p : Tri), vs = [.ref a] ∧ QAt H a us ps ∧ us[0]? = some t ∧ ps[0]? = some p ∧
  ∀ us' ps', QAt (upd H a (.lst (us'.map V.ref))) a us' ps' → ps.Perm (p :: ps') → us.Perm (t :: us') → Q (.ref t) (upd H a (.lst (us'.map V.ref)))
theorem cr_pop (hu : X.A.units + 64 < cLine) : CallR X (.builtin "_heapq.heappop") rPop := by
  intro pins s σ H vs us0 Q I r h
  obtain ⟨a, t, us, ps, p, rfl, qa, hu0, hp0, q⟩ := h
  rw [Vals.ref1 r]
  obtain ⟨its, n, rv, hg, hlen⟩ := I.lst qa.hl
  have ei := refs_eq rv
  have trs : ∀ v ∈ its, ∃ u p, v = Value.ref u ∧ H u = some (tup3 p) := fun v hv => by
    rw [ei] at hv
    obtain ⟨u, hu, rfl⟩ := List.mem_map.mp hv
    obtain ⟨p, hp⟩ := qa.tr.at hu
    exact ⟨u, p, rfl, hp⟩
  have lits : its.length = us.length := by rw [ei, List.length_map]
  have ht : H t = some (tup3 p) := by
    obtain ⟨r, e1, e2⟩ := qa.tr.2 0 p hp0
    rw [hu0] at e1
    cases e1
    exact e2
  have hlen2 : us.length ≤ sizeLine := by rw [List.length_map] at hlen; exact hlen
  refine call_pop (k := kH H) (dct := none) (n := n) (sl := #[]) (xs := its.toArray) (first := .ref t) (by show X.A.in1.units + 1 < cLine; have : X.A.in1.units ≤ X.A.units + 1 := Nat.le_refl _; omega) hg (fun i v hv => ?_) (by rw [ei]; simp [hu0]) (by rw [List.size_toArray, lits]; omega) (there (us := us) (by simpa using ei) qa.tr qa.hp) fun xs' h' n' a1 a2 a3 a4 a5 => ?_
  · obtain ⟨u, p, rfl, hu⟩ := trs v (List.mem_of_getElem? (by simpa using hv))
    exact trip_of I hu
  · rw [List.toList_toArray] at a5
    have hr' : ∀ v ∈ xs'.toList, ∃ u p, v = Value.ref u ∧ H u = some (tup3 p) := fun v hv => trs v (a5.mem_iff.mpr (List.mem_cons_of_mem _ hv))
    obtain ⟨b1, b2⟩ := back (a := a) hr' a4 ⟨_, qa.hl⟩
    have lx : us.length = xs'.toList.length + 1 := by rw [← lits, a5.length_eq]; rfl
    refine ⟨.ref t, _, I.write (x := a) (e := a) (o := .lst ((xs'.toList.map adr).map V.ref)) (t' := s.toks) (by rw [qa.hl]; exact True.intro) (.inl rfl) a2 ⟨_, a1⟩ ⟨by rw [List.length_map, List.length_map]; omega, xs'.toList, n', b1, by rw [Array.toArray_toList]; exact a1⟩, rfl, q _ _ b2 ?_ ?_⟩
    · have := a5.map (kH H)
      rw [List.map_cons, ei, qa.tr.kmap, kH_at ht] at this
      exact this
    · have := a5.map adr
      rw [List.map_cons, ei, List.map_map] at this
      have e2 : us.map (adr ∘ Value.ref) = us.map id := List.map_congr_left fun _ _ => rfl
      rw [e2, List.map_id] at this
      exact this
/-- f(e, ..), f a built-in def that a name of the module holds -/
theorem pe_callG {x : Str} {id : String} {e : Expr} {es : List Expr} {r : List V → Hp → VK → Prop} {t : TA} {p pos : Pos} (hc : CallR X (.builtin id) r) (hg : Gl X x) (hm : X.mg x = some (.builtin id)) (ha : PA X (e :: es) t) (hdb : (x == ("__debug__" : Str)) = false := by decide)
    (he : starEach (e :: es) X.env = (false, eval e X.env) :: starEach es X.env := by rfl) (hpl : (backTo pos (starEach es X.env)).any (·.1) = false := by rfl) : PE X (.Call (.Name x p) (e :: es) [] pos) (tCB r t) := by
  refine ⟨fun pins s σ H Q I h => ?_⟩
  refine Call_ (ld_glob (hd := hdb) I hg hm ?_)
  exact PyProof.Rows.callWith_builtin1 (thn (ha.run pos pins s σ H _ I h) fun us s1 ⟨vs, H1, I1, r1, q1⟩ => hc pins s1 σ H1 vs us Q I1 r1 q1) he hpl
end
end Hpq
namespace RS
open PySem L2
theorem sfr_ne {C CS : Addr} {H : Hp} {p r g t o dx : Addr} {gs : List Int} {tl : Tl} (R : RuleAt C H r g t o gs tl) (hp : H p = some (.ins CS dx [])) : r ≠ p := fun e => by
  subst e
  obtain ⟨dxr, hobr⟩ := R.ob
  have h1 := hobr.symm.trans hp
  have h2 : flds g t o = [] := by injection (Option.some.inj h1)
  have h3 := flds_g g t o
  rw [h2] at h3
  cases h3
section
variable {P : Program} {w : World} {K : PySem.W.Frag} {mg : Str → Option Value} {base : Heap}
theorem made_same {H : Hp} {p dx : Addr} {o1 o2 : HO} (hp : H p = none) (hd : H dx = none) : Same H (upd (upd H dx o1) p o2) := fun b u e => by
  rw [upd_ne (ne_of_none e hp), upd_ne (ne_of_none e hd)]
  exact e
theorem kb_scene {K : PySem.W.Frag} {f : Addr} {fd : FuncData} (F : Fun K "__init__" "Scene.__init__" s_Scene_ddinitdd f fd) : KBn K fd ["self", "rule", "starts", "outages", "length"] 3 ["outages", "length"] (fun us ws => us ++ ws) (fun vs zs => vs ++ zs) := by
  obtain ⟨oc, od, kV, doc, pm, an, cdv, ct, osl, rfl, lk, hcd⟩ := F.ex
  refine ⟨fun s us ws _ l1 l2 => .of_eq ?_, fun r1 r2 => r1.append r2⟩
  match us, ws, l1, l2 with
  | [_, _, _], [_, _], _, _ => rfl
end
end RS
namespace RS
open PySem L2
section
variable {P : Program} {w : World} {K : PySem.W.Frag} {mg : Str → Option Value} {base : Heap}
/-! ### _law_made -/
def spMade (C CS : Addr) : Sp := fun vs H Q _ => ∃ (a u g t s w : Addr) (n : Int) (gs : List Int) (tl : Tl) (bs : List Int) (rs : List V) (ws : List (Int × Int)), vs = [.ref u] ∧ Parts a H u g t s w n gs tl bs rs ws ∧ (∃ z, H a = some z) ∧ GapsOk gs ∧ TlOk gs.length tl ∧ SceneOk bs ws n ∧
  ∀ (p r g2 t2 o s2 w2 : Addr) (rs2 : List V) (H' : Hp), Same H H' → SceneAt C CS a H' p r g2 t2 o s2 w2 gs tl bs rs2 ws n → Q (.ref p) H'
theorem scMade : FnScope ["_law_parts", "_law_steps", "_law_ending", "_law_begins", "_law_windows_here", "_law_long_here"] ["_law_parts"] (defScope s_law_made) := ⟨rfl, rfl, rfl, by decide +kernel, rfl, by decide +kernel, by decide +kernel⟩
theorem ok_made {f C CS fR fS : Addr} {fd fdR fdS : FuncData} (F : Fun K "_law_made" "_law_made" s_law_made f fd) (T : Txt K mg C) (TS : TxtS K mg CS) (MR : Mk K C fR) (MS : Mk K CS fS)
    (GR : FnOk P w K mg base CX0 3 fR fdR ["self", "gaps", "tail"] (spInit C)) (bR : Binds K fdR ["self", "gaps", "tail"] [])
    (GS : FnOk P w K mg base CX0 5 fS fdS ["self", "rule", "starts", "outages", "length"] (spSInit C CS)) (kbS : KBn K fdS ["self", "rule", "starts", "outages", "length"] 3 ["outages", "length"] (fun us ws => us ++ ws) (fun vs zs => vs ++ zs)) :
    FnOk P w K mg base CX0 7 f fd ["_law_parts"] (spMade C CS) := by
  refine F.ok scMade (fun vs H Q E h => ?_) (fun cdv A outer s H vs Q E hr h => ?_)
  · obtain ⟨a, u, g, t, s, w, n, gs, tl, bs, rs, ws, rfl, _⟩ := h
    rfl
  · obtain ⟨a, u, g, t, sl, wl, n, gs, tl, bs, rs, ws, rfl, B, ⟨z, hz⟩, okG, okT, okS, k⟩ := h
    have hr4 := hr.mono (show 4 ≤ 6 by decide)
    refine ⟨_, (pss_cons (ps_asg (pv 0) (pg_tup rfl (pgs_cons (pg_name (i := 1) scMade.nd rfl (Or.inl rfl)) (pgs_cons (pg_name (i := 2) scMade.nd rfl (Or.inl rfl)) (pgs_cons (pg_name (i := 3) scMade.nd rfl (Or.inl rfl)) (pgs_cons (pg_name (i := 4) scMade.nd rfl (Or.inl rfl)) (pgs_cons (pg_name (i := 5) scMade.nd rfl (Or.inl rfl)) pgs_nil))))))) (pss_one (ps_ret (pe_makeK MS GS hr rfl TS.mgS kbS pass0 (pa_cons (pe_make MR GR hr4 rfl T.mgC bR .nil pass0 (pa_cons (pe_callTy call_list_of (by rfl) T.list (by decide +kernel) (pa_cons (pv 1) pa_nil)) (pa_cons (pv 2) pa_nil))) (pa_cons (pe_callTy call_list_of (by rfl) T.list (by decide +kernel) (pa_cons (pv 3) pa_nil)) pa_nil)) (pk_cons (pe_callTy call_list_of (by rfl) T.list (by decide +kernel) (pa_cons (pv 4) pa_nil)) (pk_cons (pv 5) pk_nil)))))), ?_⟩
    refine ⟨_, rfl, u, _, rfl, SqT.of B.hu, rfl, _, _, rfl, _, _, rfl, _, _, rfl, _, _, rfl, _, _, rfl, rfl, ?_⟩
    refine ⟨_, rfl, g, _, rfl, .inl (SqL.of B.hg), fun l1 hl1 => ?_⟩
    have s1 := same_new (o := .lst (gs.map V.int)) hl1
    have e1 := upd_same (H := H) (a := l1) (o := .lst (gs.map V.int))
    generalize (upd H l1 (.lst (gs.map V.int))) = H1 at s1 e1 ⊢
    refine ⟨_, rfl, fun r dx hrn hdx _ => ?_⟩
    have s2 := made_same (o1 := .own r) (o2 := .ins C dx []) hrn hdx
    have np : ∀ {b : Addr} {v : HO}, H1 b = some v → b ≠ r := fun e => ne_of_none e hrn
    have hz1 := s1 _ _ hz
    refine ⟨r, dx, l1, t, gs, tl, rfl, upd_same, s2 _ _ e1, s2 _ _ (s1 _ _ B.ht), okG, okT, fun g2 o H2 hg2 ho kp R2 => ⟨rfl, ?_⟩⟩
    have S2 : Same H1 H2 := fun b v e => kp b v (s2 _ _ e) (np e)
    have nra : r ≠ a := (np hz1).symm
    have hz2 := S2 _ _ hz1
    have ng2 : g2 ≠ a := (ne_of_none (s2 _ _ hz1) hg2).symm
    have noa : o ≠ a := (ne_of_none (s2 _ _ hz1) ho).symm
    clear s2 hg2 ho kp e1 hl1 hrn hdx
    have B2 := (B.kx (Kx.of s1)).kx (Kx.of S2)
    have SH2 := s1.trans S2
    clear s1 S2 hz1 B
    refine ⟨_, rfl, sl, _, rfl, .inl (SqL.of B2.hs), fun l2 hl2 => ?_⟩
    have s3 := same_new (o := .lst (bs.map V.int)) hl2
    have e3 := upd_same (H := H2) (a := l2) (o := .lst (bs.map V.int))
    generalize (upd H2 l2 (.lst (bs.map V.int))) = H3 at s3 e3 ⊢
    have B3 := B2.kx (Kx.of s3)
    refine ⟨_, rfl, wl, _, rfl, .inl (SqL.of B3.hw), fun l3 hl3 => ?_⟩
    have s4 := same_new (o := .lst rs) hl3
    have e4 := upd_same (H := H3) (a := l3) (o := .lst rs)
    generalize (upd H3 l3 (.lst rs)) = H4 at s4 e4 ⊢
    have B4 := B3.kx (Kx.of s4)
    refine ⟨_, rfl, rfl, rfl, fun p dp hp hdp _ => ?_⟩
    have s34 := s3.trans s4
    have hz4 := s34 _ _ hz2
    have s5 := made_same (o1 := .own p) (o2 := .ins CS dp []) hp hdp
    have npa : p ≠ a := (ne_of_none hz4 hp).symm
    have R4 := (R2.mono s34).mono s5
    refine ⟨a, p, dp, r, g2, t, o, l2, l3, gs, tl, bs, rs, ws, n, rfl, upd_same, R4, s5 _ _ (s4 _ _ e3), s5 _ _ e4, (B4.tp.kx (Kx.of s5)), okS, ⟨z, s5 _ _ hz4⟩, npa, nra, ng2, B2.nt, noa, fun s' w' rs' H' fr SA => ⟨rfl, ?_⟩⟩
    refine k p r g2 t o s' w' rs' H' (fun b v e => ?_) SA
    have e4 := s34 _ _ (SH2 _ _ e)
    exact fr b v (s5 _ _ e4) (ne_of_none e4 hp)
end
end RS
namespace RS
open PySem L2
section
variable {P : Program} {w : World} {K : PySem.W.Frag} {mg : Str → Option Value} {base : Heap}
/-! ### Scene: its four parts, and == of two scenes -/
theorem srdN {Q : VK} {C CS a p r g t o s wl : Addr} {gs : List Int} {tl : Tl} {bs : List Int} {rs : List V} {ws : List (Int × Int)} {n : Int} {H : Hp} {σ : L2.St} {i : Nat} (TS : TxtS K mg CS) (S : SceneAt C CS a H p r g t o s wl gs tl bs rs ws n) (hi : σ[i]? = some (some (.ref p))) {fl : Str} {v : V} (nA : NoAttr K CS fl) (lk : (sflds r s wl n).lookup fl = some v) (q : Q v H) : tFld K (tVar i) fl σ H Q := by
  obtain ⟨dx, h⟩ := S.ob
  exact ⟨_, hi, p, CS, dx, _, _, rfl, h, TS.cl, nA, lk, q⟩
theorem srdNx {te : TE} {r2 : R2} {Q : VK} {C CS a p r g t o s wl : Addr} {gs : List Int} {tl : Tl} {bs : List Int} {rs : List V} {ws : List (Int × Int)} {n : Int} {H : Hp} {σ : L2.St} {i : Nat} (TS : TxtS K mg CS) (S : SceneAt C CS a H p r g t o s wl gs tl bs rs ws n) (hi : σ[i]? = some (some (.ref p))) {fl : Str} {v : V} (nA : NoAttr K CS fl) (lk : (sflds r s wl n).lookup fl = some v) (q : te σ H fun y H2 => r2 v y H2 Q) : tOp r2 (tFld K (tVar i) fl) te σ H Q := by
  dsimp only [tOp]
  exact srdN TS S hi nA lk q
def spSts (C CS : Addr) : Sp := fun vs H Q _ => ∃ (a p r g t o s w : Addr) (gs : List Int) (tl : Tl) (bs : List Int) (rs : List V) (ws : List (Int × Int)) (n : Int), vs = [.ref p] ∧ SceneAt C CS a H p r g t o s w gs tl bs rs ws n ∧ ∀ l, H l = none → Q (.ref l) (upd H l (.lst (bs.map V.int)))
theorem scSts : FnScope ["self"] ["self"] (defScope s_Scene_starts) := ⟨rfl, rfl, rfl, by decide +kernel, rfl, by decide +kernel, by decide +kernel⟩
theorem ok_sts {f C CS : Addr} {fd : FuncData} (F : Fun K "starts" "Scene.starts" s_Scene_starts f fd) (T : Txt K mg C) (TS : TxtS K mg CS) : FnOk P w K mg base CX0 1 f fd ["self"] (spSts C CS) := by
  refine F.ok scSts (fun vs H Q E h => ?_) (fun cdv A outer s H vs Q E hr h => ?_)
  · obtain ⟨a, p, r, g, t, o, s, w, gs, tl, bs, rs, ws, n, rfl, _⟩ := h
    rfl
  · obtain ⟨a, p, r, g, t, o, sl, wl, gs, tl, bs, rs, ws, n, rfl, S, k⟩ := h
    refine ⟨_, (pss_one (ps_ret (pe_callTy call_list_of (by rfl) T.list (by decide +kernel) (pa_cons (pe_fld (pv 0) rfl) pa_nil)))), ?_⟩
    exact srdN TS S rfl TS.nS (sflds_s _ _ _ _) ⟨sl, _, rfl, .inl (SqL.of S.hs), fun l hl => k l hl⟩
def spOuts (C CS : Addr) : Sp := fun vs H Q _ => ∃ (a p r g t o s w : Addr) (gs : List Int) (tl : Tl) (bs : List Int) (rs : List V) (ws : List (Int × Int)) (n : Int), vs = [.ref p] ∧ SceneAt C CS a H p r g t o s w gs tl bs rs ws n ∧ ∀ l, H l = none → Q (.ref l) (upd H l (.lst rs))
theorem scOuts : FnScope ["self"] ["self"] (defScope s_Scene_outages) := ⟨rfl, rfl, rfl, by decide +kernel, rfl, by decide +kernel, by decide +kernel⟩
theorem ok_outs {f C CS : Addr} {fd : FuncData} (F : Fun K "outages" "Scene.outages" s_Scene_outages f fd) (T : Txt K mg C) (TS : TxtS K mg CS) : FnOk P w K mg base CX0 1 f fd ["self"] (spOuts C CS) := by
  refine F.ok scOuts (fun vs H Q E h => ?_) (fun cdv A outer s H vs Q E hr h => ?_)
  · obtain ⟨a, p, r, g, t, o, s, w, gs, tl, bs, rs, ws, n, rfl, _⟩ := h
    rfl
  · obtain ⟨a, p, r, g, t, o, sl, wl, gs, tl, bs, rs, ws, n, rfl, S, k⟩ := h
    refine ⟨_, (pss_one (ps_ret (pe_callTy call_list_of (by rfl) T.list (by decide +kernel) (pa_cons (pe_fld (pv 0) rfl) pa_nil)))), ?_⟩
    exact srdN TS S rfl TS.nW (sflds_w _ _ _ _) ⟨wl, _, rfl, .inl (SqL.of S.hw), fun l hl => k l hl⟩
def spLng (C CS : Addr) : Sp := fun vs H Q _ => ∃ (a p r g t o s w : Addr) (gs : List Int) (tl : Tl) (bs : List Int) (rs : List V) (ws : List (Int × Int)) (n : Int), vs = [.ref p] ∧ SceneAt C CS a H p r g t o s w gs tl bs rs ws n ∧ Q (.int n) H
theorem scLng : FnScope ["self"] ["self"] (defScope s_Scene_length) := ⟨rfl, rfl, rfl, by decide +kernel, rfl, by decide +kernel, by decide +kernel⟩
theorem ok_lng {f C CS : Addr} {fd : FuncData} (F : Fun K "length" "Scene.length" s_Scene_length f fd) (T : Txt K mg C) (TS : TxtS K mg CS) : FnOk P w K mg base CX0 1 f fd ["self"] (spLng C CS) := by
  refine F.ok scLng (fun vs H Q E h => ?_) (fun cdv A outer s H vs Q E hr h => ?_)
  · obtain ⟨a, p, r, g, t, o, s, w, gs, tl, bs, rs, ws, n, rfl, _⟩ := h
    rfl
  · obtain ⟨a, p, r, g, t, o, sl, wl, gs, tl, bs, rs, ws, n, rfl, S, k⟩ := h
    refine ⟨_, (pss_one (ps_ret (pe_fld (pv 0) rfl))), ?_⟩
    exact srdN TS S rfl TS.nN (sflds_n _ _ _ _) k
end
end RS
namespace RS
open PySem L2
section
variable {P : Program} {w : World} {K : PySem.W.Frag} {mg : Str → Option Value} {base : Heap}
/-! ### Scene.rule -/
def spRul (C CS : Addr) : Sp := fun vs H Q _ => ∃ (a p r g t o s w : Addr) (gs : List Int) (tl : Tl) (bs : List Int) (rs : List V) (ws : List (Int × Int)) (n : Int), vs = [.ref p] ∧ SceneAt C CS a H p r g t o s w gs tl bs rs ws n ∧ ∀ (q g2 o2 : Addr) (H' : Hp), Same H H' → H q = none → RuleAt C H' q g2 t o2 gs tl → Q (.ref q) H'
theorem scRul : FnScope ["self"] ["self"] (defScope s_Scene_rule) := ⟨rfl, rfl, rfl, by decide +kernel, rfl, by decide +kernel, by decide +kernel⟩
theorem ok_rul {f C CS fR fG fT : Addr} {fd fdR fdG fdT : FuncData} (F : Fun K "rule" "Scene.rule" s_Scene_rule f fd) (T : Txt K mg C) (TS : TxtS K mg CS) (MR : Mk K C fR)
    (GR : FnOk P w K mg base CX0 3 fR fdR ["self", "gaps", "tail"] (spInit C)) (bR : Binds K fdR ["self", "gaps", "tail"] [])
    (GG : FnOk P w K mg base CX0 1 fG fdG ["self"] (spGaps C)) (bG : Binds K fdG ["self"] []) (mG : Meth K C "gaps" fG)
    (GT : FnOk P w K mg base CX0 1 fT fdT ["self"] (spTail C)) (bT : Binds K fdT ["self"] []) (mT : Meth K C "tail" fT) : FnOk P w K mg base CX0 5 f fd ["self"] (spRul C CS) := by
  refine F.ok scRul (fun vs H Q E h => ?_) (fun cdv A outer s H vs Q E hr h => ?_)
  · obtain ⟨a, p, r, g, t, o, s, w, gs, tl, bs, rs, ws, n, rfl, _⟩ := h
    rfl
  · obtain ⟨a, p, r, g, t, o, sl, wl, gs, tl, bs, rs, ws, n, rfl, S, k⟩ := h
    have hr1 := hr.mono (show 1 ≤ 4 by decide)
    refine ⟨_, (pss_one (ps_ret (pe_make MR GR hr rfl T.mgC bR .nil pass0 (pa_cons (pe_meth0 (pe_fld (pv 0) rfl) T.cl mG GG hr1 bG .nil pass0) (pa_cons (pe_meth0 (pe_fld (pv 0) rfl) T.cl mT GT hr1 bT .nil pass0) pa_nil))))), ?_⟩
    have nG : (flds g t o).lookup ("gaps" : Str) = none := flds_no _ _ _ (by decide +kernel) (by decide +kernel) (by decide +kernel)
    have nT : (flds g t o).lookup ("tail" : Str) = none := flds_no _ _ _ (by decide +kernel) (by decide +kernel) (by decide +kernel)
    obtain ⟨dr, hr1'⟩ := S.R.ob
    dsimp only [tRet, tMake, tCons, tMeth]
    refine srdN TS S rfl TS.nR (sflds_r _ _ _ _) ⟨r, dr, _, rfl, hr1', nG, r, g, t, o, gs, tl, rfl, S.R, fun l hl => ?_⟩
    have s1 := same_new (o := .lst (gs.map V.int)) hl
    have e1 := upd_same (H := H) (a := l) (o := .lst (gs.map V.int))
    generalize (upd H l (.lst (gs.map V.int))) = H1 at s1 e1 ⊢
    have A1 := S.kx (Kx.of s1)
    refine srdN TS A1 rfl TS.nR (sflds_r _ _ _ _) ⟨r, dr, _, rfl, s1 _ _ hr1', nT, r, g, t, o, gs, tl, rfl, A1.R, fun q dx hq hdx _ => ?_⟩
    have s2 := made_same (o1 := .own q) (o2 := .ins C dx []) hq hdx
    refine ⟨q, dx, l, t, gs, tl, rfl, upd_same, s2 _ _ e1, s2 _ _ A1.R.ht, S.R.okG, S.R.okT, fun g2 o2 H2 hg2 ho kp R2 => ⟨rfl, ?_⟩⟩
    have hqH : H q = none := by
      cases e : H q with
      | none => rfl
      | some u => have := s1 _ _ e; rw [hq] at this; cases this
    exact k q g2 o2 H2 (fun b v e => kp b v (s2 _ _ (s1 _ _ e)) (ne_of_none (s1 _ _ e) hq)) hqH R2
end
end RS
namespace RS
open PySem L2 Hpq
/-! ### the course of a scene: its object -/
structure TxtC (K : PySem.W.Frag) (mg : Str → Option Value) (CC : Addr) : Prop where
  cl : Cls K CC
  n1 : NoAttr K CC "_scene"
  n2 : NoAttr K CC "_starts"
  n3 : NoAttr K CC "_gaps"
  n4 : NoAttr K CC "_loop"
  n5 : NoAttr K CC "_queue"
  n6 : NoAttr K CC "_free"
  n7 : NoAttr K CC "_waiting"
  n8 : NoAttr K CC "_services"
  mgC : mg "Course" = some (.ref CC)
  push : mg "heappush" = some (.builtin "_heapq.heappush")
  pop : mg "heappop" = some (.builtin "_heapq.heappop")
/-- where the things of a course stand -/
structure CoA where
  (p sc r g t o sl wl st sg gl lp lo ld q sv : Addr)
  rs : List Addr
/-- the scene -/
structure ScD where
  gs : List Int
  tl : Tl
  bs : List Int
  ws : List (Int × Int)
  ln : Int
/-- how far the course is -/
structure CoS where
  free : Int
  S : List (Int × Nat)
  Qs : List Tri3
  us : List Addr
  vs : List Addr
  M : List Nat
  ks : List Int
  as : List Addr
  L : Option Int
  ch : Bool
  j : Nat
  wn : Nat
def crf (A : CoA) (free : Int) (n : Nat) : List (Str × V) := [("_scene", .ref A.sc), ("_starts", .ref A.st), ("_gaps", .ref A.sg), ("_loop", .ref A.lp), ("_queue", .ref A.q), ("_free", .int free), ("_waiting", .int (n : Int)), ("_services", .ref A.sv)]
section
variable (A : CoA) (free : Int) (n : Nat)
theorem crf_1 : (crf A free n).lookup ("_scene" : Str) = some (.ref A.sc) := lke
theorem crf_2 : (crf A free n).lookup ("_starts" : Str) = some (.ref A.st) := by
  unfold crf
  rw [lkn (by decide +kernel), lke]
theorem crf_3 : (crf A free n).lookup ("_gaps" : Str) = some (.ref A.sg) := by
  unfold crf
  rw [lkn (by decide +kernel), lkn (by decide +kernel), lke]
theorem crf_4 : (crf A free n).lookup ("_loop" : Str) = some (.ref A.lp) := by
  unfold crf
  rw [lkn (by decide +kernel), lkn (by decide +kernel), lkn (by decide +kernel), lke]
theorem crf_5 : (crf A free n).lookup ("_queue" : Str) = some (.ref A.q) := by
  unfold crf
  rw [lkn (by decide +kernel), lkn (by decide +kernel), lkn (by decide +kernel), lkn (by decide +kernel), lke]
theorem crf_6 : (crf A free n).lookup ("_free" : Str) = some (.int free) := by
  unfold crf
  rw [lkn (by decide +kernel), lkn (by decide +kernel), lkn (by decide +kernel), lkn (by decide +kernel), lkn (by decide +kernel), lke]
theorem crf_7 : (crf A free n).lookup ("_waiting" : Str) = some (.int (n : Int)) := by
  unfold crf
  rw [lkn (by decide +kernel), lkn (by decide +kernel), lkn (by decide +kernel), lkn (by decide +kernel), lkn (by decide +kernel), lkn (by decide +kernel), lke]
theorem crf_8 : (crf A free n).lookup ("_services" : Str) = some (.ref A.sv) := by
  unfold crf
  rw [lkn (by decide +kernel), lkn (by decide +kernel), lkn (by decide +kernel), lkn (by decide +kernel), lkn (by decide +kernel), lkn (by decide +kernel), lkn (by decide +kernel), lke]
theorem crf_no {m : Str} (h1 : m ≠ "_scene") (h2 : m ≠ "_starts") (h3 : m ≠ "_gaps") (h4 : m ≠ "_loop") (h5 : m ≠ "_queue") (h6 : m ≠ "_free") (h7 : m ≠ "_waiting") (h8 : m ≠ "_services") : (crf A free n).lookup m = none := by
  unfold crf
  rw [lkn h1, lkn h2, lkn h3, lkn h4, lkn h5, lkn h6, lkn h7, lkn h8]
  rfl
theorem crf_sF (x : Int) : putF "_free" (.int x) (crf A free n) = crf A x n := by
  unfold crf
  rw [pfn (by decide +kernel), pfn (by decide +kernel), pfn (by decide +kernel), pfn (by decide +kernel), pfn (by decide +kernel), pfe]
theorem crf_sW (x : Nat) : putF "_waiting" (.int (x : Int)) (crf A free n) = crf A free x := by
  unfold crf
  rw [pfn (by decide +kernel), pfn (by decide +kernel), pfn (by decide +kernel), pfn (by decide +kernel), pfn (by decide +kernel), pfn (by decide +kernel), pfe]
end
/-- a scene stands at sc -/
structure SceneR (C CS : Addr) (H : Hp) (A : CoA) (D : ScD) : Prop where
  ob : ∃ dx, H A.sc = some (.ins CS dx (sflds A.r A.sl A.wl D.ln))
  R : RuleAt C H A.r A.g A.t A.o D.gs D.tl
  hs : H A.sl = some (.lst (D.bs.map V.int))
  hw : H A.wl = some (.lst (A.rs.map V.ref))
  tp : TupsI H A.rs D.ws
  ok : SceneOk D.bs D.ws D.ln
/-- what is only read -/
def CoA.ro (A : CoA) : List Addr := A.sc :: A.r :: A.g :: A.t :: A.o :: A.sl :: A.wl :: A.st :: A.sg :: A.lo :: A.rs
/-- what is written -/
def CoA.wr (A : CoA) (as : List Addr) : List Addr := A.p :: A.gl :: A.lp :: A.ld :: A.q :: A.sv :: as
theorem tups_of {H : Hp} {a : Addr} : ∀ {rs : List Addr} {ws : List (Int × Int)}, TupsI H rs ws → a ∉ rs → Tups a H (rs.map V.ref) ws
  | [], [], _, _ => .nil
  | [], _ :: _, t, _ => nomatch t.1
  | _ :: _, [], t, _ => nomatch t.1
  | r :: rs, p :: ws, t, h => by
    obtain ⟨r', e1, e2⟩ := t.2 0 p rfl
    cases (Option.some.inj e1 : r = r')
    exact .cons (fun e => h (e ▸ List.mem_cons_self ..)) e2 (tups_of ⟨Nat.succ.inj t.1, fun j q e => t.2 (j + 1) q e⟩ fun z => h (List.mem_cons_of_mem _ z))
theorem SceneR.to {C CS : Addr} {H : Hp} {A : CoA} {D : ScD} (S : SceneR C CS H A D) {a : Addr} (h : a ∉ A.ro) : SceneAt C CS a H A.sc A.r A.g A.t A.o A.sl A.wl D.gs D.tl D.bs (A.rs.map V.ref) D.ws D.ln := by
  have m : ∀ x, x ∈ A.ro → x ≠ a := fun x hx e => h (e ▸ hx)
  refine ⟨S.ob, S.R, S.hs, S.hw, tups_of S.tp fun z => h ?_, S.ok, m _ ?_, m _ ?_, m _ ?_, m _ ?_, m _ ?_, m _ ?_, m _ ?_⟩ <;> simp [CoA.ro, *]
theorem SceneR.keep {C CS : Addr} {H H' : Hp} {A : CoA} {D : ScD} (S : SceneR C CS H A D) (h : ∀ c ∈ A.ro, ∀ u, H c = some u → H' c = some u) : SceneR C CS H' A D := by
  have m : ∀ {c u}, c ∈ A.ro → H c = some u → H' c = some u := fun hc e => h _ hc _ e
  obtain ⟨dx, e⟩ := S.ob
  obtain ⟨dr, er⟩ := S.R.ob
  refine ⟨⟨dx, m (by simp [CoA.ro]) e⟩, ⟨⟨dr, m (by simp [CoA.ro]) er⟩, m (by simp [CoA.ro]) S.R.hg, m (by simp [CoA.ro]) S.R.ht, m (by simp [CoA.ro]) S.R.ho, S.R.okG, S.R.okT⟩, m (by simp [CoA.ro]) S.hs, m (by simp [CoA.ro]) S.hw, ⟨S.tp.1, fun j p e => ?_⟩, S.ok⟩
  obtain ⟨r, e1, e2⟩ := S.tp.2 j p e
  exact ⟨r, e1, m (by simp [CoA.ro, List.mem_of_getElem? e1]) e2⟩
/-- what is written is apart from what is read -/
structure CoSep (H : Hp) (W RO : List Addr) : Prop where
  nd : W.Nodup
  ap : ∀ x ∈ W, x ∉ RO
  nt : ∀ x ∈ W, ∃ u, H x = some u ∧ ∀ xs, u ≠ .tup xs
  ro : ∀ x ∈ RO, ∃ u, H x = some u
structure CoAt (C CS CC CG CLp : Addr) (H : Hp) (A : CoA) (D : ScD) (s : CoS) (X : List Addr) : Prop where
  ob : ∃ dx, H A.p = some (.ins CC dx (crf A s.free s.wn))
  scn : SceneR C CS H A D
  hst : H A.st = some (.lst (D.bs.map V.int))
  sg : SgAt CG H A.sg A.gl D.gs D.tl s.j
  lp : LoopX CLp H A.lp A.lo A.ld D.gs D.tl D.bs s.M s.ks s.as s.L s.ch
  qA : QAt H A.q s.us s.Qs
  svL : H A.sv = some (.lst (s.vs.map V.ref))
  svT : TupsI H s.vs (s.S.map fun p => (p.1, (p.2 : Int)))
  sep : CoSep H (X ++ A.wr s.as) A.ro
/-- only these are written -/
structure GrC (H H' : Hp) (W W' : List Addr) : Prop where
  fp : ∀ c u, H c = some u → c ∉ W → H' c = some u
  nw : ∀ a ∈ W', a ∈ W ∨ H a = none
theorem GrC.refl {H : Hp} {W : List Addr} : GrC H H W W := ⟨fun _ _ e _ => e, fun _ h => .inl h⟩
theorem GrC.trans {H H1 H2 : Hp} {W W1 W2 : List Addr} (G : GrC H H1 W W1) (G2 : GrC H1 H2 W1 W2) : GrC H H2 W W2 := by
  have up : ∀ {c u}, H c = some u → c ∉ W → c ∉ W1 := fun {c u} e n z => by
    rcases G.nw c z with y | y
    · exact n y
    · rw [e] at y
      cases y
  refine ⟨fun c u e n => G2.fp c u (G.fp c u e n) (up e n), fun a ha => ?_⟩
  by_cases h : a ∈ W
  · exact .inl h
  · refine .inr ?_
    cases e : H a with
    | none => rfl
    | some u =>
      rcases G2.nw a ha with z | z
      · exact absurd z (up e h)
      · rw [G.fp a u e h] at z
        cases z
theorem GrC.same {H H' : Hp} {W : List Addr} (S : Same H H') : GrC H H' W W := ⟨fun c u e _ => S c u e, fun _ h => .inl h⟩
theorem GrC.kx {H H' : Hp} {W : List Addr} {a : Addr} (k : Kx a H H') (h : a ∈ W) : GrC H H' W W := ⟨fun c u e n => k c u (fun z => n (z ▸ h)) e, fun _ h => .inl h⟩
end RS
namespace RS
open PySem L2 Hpq
/-! ### the course of a scene: what stays when something of it is written -/
theorem LoopX.keep {C : Addr} {H H' : Hp} {p o d : Addr} {gs : List Int} {tl : Tl} {bs : List Int} {M : List Nat} {ks : List Int} {as : List Addr} {L : Option Int} {ch : Bool} (R : LoopX C H p o d gs tl bs M ks as L ch) (h : ∀ c ∈ p :: o :: d :: as, ∀ u, H c = some u → H' c = some u) : LoopX C H' p o d gs tl bs M ks as L ch := by
  have m : ∀ {c u}, c ∈ p :: o :: d :: as → H c = some u → H' c = some u := fun hc e => h _ hc _ e
  have N : ∀ {ch : Bool}, LoopN C H p o d ch → LoopN C H' p o d ch := fun R => by
    obtain ⟨dx, e⟩ := R.ob
    exact ⟨⟨dx, m (by simp) e⟩, m (by simp) R.ho, m (by simp) R.hd⟩
  cases tl with
  | rep n =>
    have R : LoopAt C H p o d gs n ks as _ L ch := R
    obtain ⟨dx, e⟩ := R.ob
    refine (⟨⟨dx, m (by simp) e⟩, m (by simp) R.ho, R.D.keep ((m (by simp) R.D.hd).trans R.D.hd.symm) fun a ha => ?_, R.no, R.kb, R.bd, R.okG, R.h1, R.h2⟩ : LoopAt C H' p o d gs n ks as _ L ch)
    obtain ⟨r, e⟩ := R.D.some_ ha
    exact (m (by simp [ha]) e).trans e.symm
  | fin => exact ⟨N R.1, R.2⟩
  | times b => exact ⟨N R.1, R.2⟩
theorem triI_keep {H H' : Hp} {us : List Addr} {ps : List Tri} (t : TriI H us ps) (h : ∀ (r : Addr) (xs : List V), H r = some (.tup xs) → H' r = some (.tup xs)) : TriI H' us ps :=
  ⟨t.1, fun j p e => let ⟨r, a, b⟩ := t.2 j p e; ⟨r, a, h _ _ b⟩⟩
theorem CoSep.tup {H : Hp} {W RO : List Addr} (S : CoSep H W RO) {c : Addr} {xs : List V} (h : H c = some (.tup xs)) : c ∉ W := fun z => by
  obtain ⟨u, e, n⟩ := S.nt c z
  rw [h] at e
  exact n xs (Option.some.inj e).symm
theorem CoSep.keep {H H' : Hp} {W RO T : List Addr} (S : CoSep H W RO) (h : ∀ c u, H c = some u → c ∉ T → H' c = some u) (hT : ∀ x ∈ T, x ∈ W) (n : ∀ x ∈ T, ∃ u, H' x = some u ∧ ∀ xs, u ≠ .tup xs) : CoSep H' W RO := by
  refine ⟨S.nd, S.ap, fun x hx => ?_, fun x hx => ?_⟩
  · by_cases z : x ∈ T
    · exact n x z
    · obtain ⟨u, e, y⟩ := S.nt x hx
      exact ⟨u, h x u e z, y⟩
  · obtain ⟨u, e⟩ := S.ro x hx
    exact ⟨u, h x u e fun z => S.ap x (hT x z) hx⟩
theorem CoSep.perm {H : Hp} {W W' RO : List Addr} (S : CoSep H W RO) (p : W'.Perm W) : CoSep H W' RO :=
  ⟨p.nodup_iff.mpr S.nd, fun x hx => S.ap x (p.mem_iff.mp hx), fun x hx => S.nt x (p.mem_iff.mp hx), S.ro⟩
/-- one more that is new -/
theorem CoSep.more {H : Hp} {W RO : List Addr} {a : Addr} {u : HO} (S : CoSep H W RO) (ha : H a = none) (hu : ∀ xs, u ≠ .tup xs) : CoSep (upd H a u) (W ++ [a]) RO := by
  have Sm := same_new (o := u) ha
  have na : a ∉ W := fun z => by
    obtain ⟨v, e, _⟩ := S.nt a z
    rw [ha] at e
    cases e
  have nr : a ∉ RO := fun z => by
    obtain ⟨v, e⟩ := S.ro a z
    rw [ha] at e
    cases e
  refine ⟨List.nodup_append.mpr ⟨S.nd, nodup_one a, fun x hx y hy e => na (by rw [← List.mem_singleton.mp hy, ← e]; exact hx)⟩, fun x hx => ?_, fun x hx => ?_, fun x hx => ?_⟩
  · rcases List.mem_append.mp hx with hx | hx
    · exact S.ap x hx
    · rw [List.mem_singleton.mp hx]
      exact nr
  · rcases List.mem_append.mp hx with hx | hx
    · obtain ⟨v, e, y⟩ := S.nt x hx
      exact ⟨v, Sm _ _ e, y⟩
    · rw [List.mem_singleton.mp hx]
      exact ⟨u, upd_same, hu⟩
  · obtain ⟨v, e⟩ := S.ro x hx
    exact ⟨v, Sm _ _ e⟩
section
variable {C CS CC CG CLp : Addr} {H H' : Hp} {A : CoA} {D : ScD} {s : CoS} {X : List Addr}
theorem CoAt.same (c : CoAt C CS CC CG CLp H A D s X) (S : Same H H') : CoAt C CS CC CG CLp H' A D s X :=
  ⟨let ⟨dx, e⟩ := c.ob; ⟨dx, S _ _ e⟩, c.scn.keep fun x _ u e => S x u e, S _ _ c.hst, c.sg.same S, c.lp.same S, ⟨S _ _ c.qA.hl, triI_keep c.qA.tr fun r xs e => S r _ e, c.qA.hp⟩, S _ _ c.svL, c.svT.same S,
    c.sep.keep (T := []) (fun x u e _ => S x u e) (fun x h => nomatch h) (fun x h => nomatch h)⟩
/-- what stays when some of it is written -/
structure CoKp (C CS CC CG CLp : Addr) (H' : Hp) (A : CoA) (D : ScD) (s : CoS) (T : List Addr) : Prop where
  ob : A.p ∉ T → ∃ dx, H' A.p = some (.ins CC dx (crf A s.free s.wn))
  scn : SceneR C CS H' A D
  hst : H' A.st = some (.lst (D.bs.map V.int))
  sg : A.gl ∉ T → SgAt CG H' A.sg A.gl D.gs D.tl s.j
  lp : A.lp ∉ T → A.ld ∉ T → (∀ a ∈ s.as, a ∉ T) → LoopX CLp H' A.lp A.lo A.ld D.gs D.tl D.bs s.M s.ks s.as s.L s.ch
  qL : A.q ∉ T → H' A.q = some (.lst (s.us.map V.ref))
  qT : TriI H' s.us s.Qs
  svL : A.sv ∉ T → H' A.sv = some (.lst (s.vs.map V.ref))
  svT : TupsI H' s.vs (s.S.map fun p => (p.1, (p.2 : Int)))
theorem CoAt.kp (c : CoAt C CS CC CG CLp H A D s X) {T : List Addr} (hT : ∀ x ∈ T, x ∈ X ++ A.wr s.as) (h : ∀ c u, H c = some u → c ∉ T → H' c = some u) : CoKp C CS CC CG CLp H' A D s T := by
  have ro : ∀ x ∈ A.ro, x ∉ T := fun x hx z => c.sep.ap x (hT x z) hx
  have tu : ∀ (r : Addr) (xs : List V), H r = some (.tup xs) → H' r = some (.tup xs) := fun r xs e => h r _ e fun z => c.sep.tup e (hT r z)
  refine ⟨fun n => let ⟨dx, e⟩ := c.ob; ⟨dx, h _ _ e n⟩, c.scn.keep fun x hx u e => h x u e (ro x hx), h _ _ c.hst (ro _ (by simp [CoA.ro])), fun n => ?_, fun n1 n2 n3 => c.lp.keep fun x hx u e => h x u e ?_, fun n => h _ _ c.qA.hl n, triI_keep c.qA.tr tu, fun n => h _ _ c.svL n, c.svT.kx tu⟩
  · obtain ⟨dx, e⟩ := c.sg.ob
    exact ⟨⟨dx, h _ _ e (ro _ (by simp [CoA.ro]))⟩, h _ _ c.sg.hl n, c.sg.hj, c.sg.okG, c.sg.okT⟩
  · rcases List.mem_cons.mp hx with rfl | hx
    · exact n1
    rcases List.mem_cons.mp hx with rfl | hx
    · exact ro _ (by simp [CoA.ro])
    rcases List.mem_cons.mp hx with rfl | hx
    · exact n2
    exact n3 x hx
/-- some list that is not the course's own is written -/
theorem CoAt.side (c : CoAt C CS CC CG CLp H A D s X) {a : Addr} (ha : a ∈ X) (k : Kx a H H') (n : ∃ u, H' a = some u ∧ ∀ xs, u ≠ .tup xs) : CoAt C CS CC CG CLp H' A D s X := by
  have h : ∀ c u, H c = some u → c ∉ [a] → H' c = some u := fun c u e z => k c u (fun y => z (by rw [y]; exact List.mem_singleton.mpr rfl)) e
  have hT : ∀ x ∈ [a], x ∈ X ++ A.wr s.as := fun x hx => by rw [List.mem_singleton.mp hx]; exact List.mem_append.mpr (.inl ha)
  have nw : ∀ x ∈ A.wr s.as, x ∉ [a] := fun x hx z => by
    have := List.nodup_append.mp c.sep.nd
    exact this.2.2 a ha x hx (List.mem_singleton.mp z).symm
  have p := c.kp hT h
  exact ⟨p.ob (nw _ (by simp [CoA.wr])), p.scn, p.hst, p.sg (nw _ (by simp [CoA.wr])), p.lp (nw _ (by simp [CoA.wr])) (nw _ (by simp [CoA.wr])) (fun a ha => nw _ (by simp [CoA.wr, ha])), ⟨p.qL (nw _ (by simp [CoA.wr])), p.qT, c.qA.hp⟩, p.svL (nw _ (by simp [CoA.wr])), p.svT,
    c.sep.keep h hT fun x hx => by rw [List.mem_singleton.mp hx]; exact n⟩
/-- one more list aside -/
theorem CoAt.aside (c : CoAt C CS CC CG CLp H A D s X) {a : Addr} {u : HO} (ha : H a = none) (hu : ∀ xs, u ≠ .tup xs) : CoAt C CS CC CG CLp (upd H a u) A D s (a :: X) := by
  have c2 := c.same (same_new (o := u) ha)
  exact ⟨c2.ob, c2.scn, c2.hst, c2.sg, c2.lp, c2.qA, c2.svL, c2.svT, (c.sep.more ha hu).perm (by rw [List.cons_append]; exact (List.perm_append_singleton a _).symm)⟩
theorem CoAt.less (c : CoAt C CS CC CG CLp H A D s (a :: X)) : CoAt C CS CC CG CLp H A D s X :=
  ⟨c.ob, c.scn, c.hst, c.sg, c.lp, c.qA, c.svL, c.svT, (List.nodup_cons.mp c.sep.nd).2, fun x hx => c.sep.ap x (List.mem_cons_of_mem _ hx), fun x hx => c.sep.nt x (List.mem_cons_of_mem _ hx), c.sep.ro⟩
theorem CoAt.ne (c : CoAt C CS CC CG CLp H A D s X) : A.p ∉ A.ro := c.sep.ap _ (by simp [CoA.wr])
/-- the scene, apart from the course -/
theorem CoAt.scene (c : CoAt C CS CC CG CLp H A D s X) : SceneAt C CS A.p H A.sc A.r A.g A.t A.o A.sl A.wl D.gs D.tl D.bs (A.rs.map V.ref) D.ws D.ln := c.scn.to c.ne
theorem CoAt.wrn (c : CoAt C CS CC CG CLp H A D s X) : (A.wr s.as).Nodup := (List.nodup_append.mp c.sep.nd).2.1
end
end RS
namespace RS
open PySem L2
theorem inV_int (v : Int) (os : List Int) : inV (.int v) (os.map V.int) = decide (v ∈ os) := by
  rw [Bool.eq_iff_iff, decide_eq_true_iff]
  unfold inV
  rw [List.any_eq_true]
  constructor
  · rintro ⟨y, hy, e⟩
    obtain ⟨z, hz, rfl⟩ := List.mem_map.mp hy
    have e : (z == v) = true := e
    rw [← eq_of_beq e]
    exact hz
  · intro h
    exact ⟨.int v, List.mem_map.mpr ⟨v, h, rfl⟩, (beq_self_eq_true v : (v == v) = true)⟩
end RS
namespace RS
open PySem L2
theorem ints_flat (ns : List Int) : (ns.map V.int).all flatV = true := by
  rw [List.all_eq_true]
  intro x hx
  obtain ⟨n, _, rfl⟩ := List.mem_map.mp hx
  rfl
theorem pe_bmK {X : Cx} {K : PySem.W.Frag} {T : String} {e : Expr} {r : V → List V → Hp → VK → Prop} {to : L2.TE} {t : L2.TA} (hK : X.K = K) (h : PE X e (tBM X.K T r to t)) : PE X e (tBM K T r to t) := hK ▸ h
end RS
namespace RS
open PySem L2 Hpq
/-! ### Course.__init__ -/
theorem tups_back {a : Addr} {H : Hp} {rs : List V} {ws : List (Int × Int)} (t : Tups a H rs ws) : ∃ us : List Addr, rs = us.map V.ref ∧ TupsI H us ws := by
  induction t with
  | nil => exact ⟨[], rfl, TupsI.nil⟩
  | @cons r vs f e ws n h _ ih =>
    obtain ⟨us, rfl, l, t⟩ := ih
    refine ⟨r :: us, rfl, by rw [List.length_cons, List.length_cons, l], fun j p hp => ?_⟩
    cases j with
    | zero =>
      cases hp
      exact ⟨r, rfl, h⟩
    | succ j => exact t j p hp
/-- a course that begins -/
structure CoS0 (D : ScD) (s : CoS) : Prop where
  S : s.S = []
  M : s.M = []
  ks : s.ks = []
  as : s.as = []
  L : s.L = none
  ch : s.ch = false
  vs : s.vs = []
  j : s.j ≤ D.gs.length
  wn : s.wn = (unS D.bs []).length
  Qs : s.Qs.Perm (startQ D.bs)
  free : ∀ c, c < D.bs.length → s.free ≤ D.bs.getD c 0
def cf1 (sc : Addr) : List (Str × V) := [("_scene", .ref sc)]
def cf2 (sc : Addr) (st : Addr) : List (Str × V) := [("_scene", .ref sc), ("_starts", .ref st)]
theorem cf2_ (sc : Addr) (st : Addr) : putF "_starts" (.ref st) (cf1 sc) = cf2 sc st := by
  unfold cf1
  rw [pfn (by decide +kernel)]
  rfl
def cf3 (sc : Addr) (st : Addr) (sg : Addr) : List (Str × V) := [("_scene", .ref sc), ("_starts", .ref st), ("_gaps", .ref sg)]
theorem cf3_ (sc : Addr) (st : Addr) (sg : Addr) : putF "_gaps" (.ref sg) (cf2 sc st) = cf3 sc st sg := by
  unfold cf2
  rw [pfn (by decide +kernel), pfn (by decide +kernel)]
  rfl
def cf4 (sc : Addr) (st : Addr) (sg : Addr) (lp : Addr) : List (Str × V) := [("_scene", .ref sc), ("_starts", .ref st), ("_gaps", .ref sg), ("_loop", .ref lp)]
theorem cf4_ (sc : Addr) (st : Addr) (sg : Addr) (lp : Addr) : putF "_loop" (.ref lp) (cf3 sc st sg) = cf4 sc st sg lp := by
  unfold cf3
  rw [pfn (by decide +kernel), pfn (by decide +kernel), pfn (by decide +kernel)]
  rfl
def cf5 (sc : Addr) (st : Addr) (sg : Addr) (lp : Addr) (q : Addr) : List (Str × V) := [("_scene", .ref sc), ("_starts", .ref st), ("_gaps", .ref sg), ("_loop", .ref lp), ("_queue", .ref q)]
theorem cf5_ (sc : Addr) (st : Addr) (sg : Addr) (lp : Addr) (q : Addr) : putF "_queue" (.ref q) (cf4 sc st sg lp) = cf5 sc st sg lp q := by
  unfold cf4
  rw [pfn (by decide +kernel), pfn (by decide +kernel), pfn (by decide +kernel), pfn (by decide +kernel)]
  rfl
def cf6 (sc : Addr) (st : Addr) (sg : Addr) (lp : Addr) (q : Addr) (fr : Int) : List (Str × V) := [("_scene", .ref sc), ("_starts", .ref st), ("_gaps", .ref sg), ("_loop", .ref lp), ("_queue", .ref q), ("_free", .int fr)]
theorem cf6_ (sc : Addr) (st : Addr) (sg : Addr) (lp : Addr) (q : Addr) (fr : Int) : putF "_free" (.int fr) (cf5 sc st sg lp q) = cf6 sc st sg lp q fr := by
  unfold cf5
  rw [pfn (by decide +kernel), pfn (by decide +kernel), pfn (by decide +kernel), pfn (by decide +kernel), pfn (by decide +kernel)]
  rfl
def cf7 (sc : Addr) (st : Addr) (sg : Addr) (lp : Addr) (q : Addr) (fr : Int) (wn : Nat) : List (Str × V) := [("_scene", .ref sc), ("_starts", .ref st), ("_gaps", .ref sg), ("_loop", .ref lp), ("_queue", .ref q), ("_free", .int fr), ("_waiting", .int (wn : Int))]
theorem cf7_ (sc : Addr) (st : Addr) (sg : Addr) (lp : Addr) (q : Addr) (fr : Int) (wn : Nat) : putF "_waiting" (.int (wn : Int)) (cf6 sc st sg lp q fr) = cf7 sc st sg lp q fr wn := by
  unfold cf6
  rw [pfn (by decide +kernel), pfn (by decide +kernel), pfn (by decide +kernel), pfn (by decide +kernel), pfn (by decide +kernel), pfn (by decide +kernel)]
  rfl
def cf8 (sc : Addr) (st : Addr) (sg : Addr) (lp : Addr) (q : Addr) (fr : Int) (wn : Nat) (sv : Addr) : List (Str × V) := [("_scene", .ref sc), ("_starts", .ref st), ("_gaps", .ref sg), ("_loop", .ref lp), ("_queue", .ref q), ("_free", .int fr), ("_waiting", .int (wn : Int)), ("_services", .ref sv)]
theorem cf8_ (sc : Addr) (st : Addr) (sg : Addr) (lp : Addr) (q : Addr) (fr : Int) (wn : Nat) (sv : Addr) : putF "_services" (.ref sv) (cf7 sc st sg lp q fr wn) = cf8 sc st sg lp q fr wn sv := by
  unfold cf7
  rw [pfn (by decide +kernel), pfn (by decide +kernel), pfn (by decide +kernel), pfn (by decide +kernel), pfn (by decide +kernel), pfn (by decide +kernel), pfn (by decide +kernel)]
  rfl
theorem scene_ap {C CS CC a p dx sc r g t o sl wl : Addr} {H : Hp} {gs : List Int} {tl : Tl} {bs : List Int} {rs : List V} {ws : List (Int × Int)} {n : Int} (S : SceneAt C CS a H sc r g t o sl wl gs tl bs rs ws n) (hp : H p = some (.ins CC dx [])) :
    ∃ us : List Addr, rs = us.map V.ref ∧ TupsI H us ws ∧ p ∉ sc :: r :: g :: t :: o :: sl :: wl :: us ∧ SceneAt C CS p H sc r g t o sl wl gs tl bs rs ws n := by
  obtain ⟨us, rfl, tu⟩ := tups_back S.tp
  obtain ⟨dx1, e1⟩ := S.ob
  obtain ⟨dx2, e2⟩ := S.R.ob
  have n1 : sc ≠ p := ne_of e1 hp (by intro z; injection z with z1 z2 z3; have := sflds_r r sl wl n; rw [z3] at this; cases this)
  have n2 : r ≠ p := ne_of e2 hp (by intro z; injection z with z1 z2 z3; exact flds_cons g t o z3)
  have n3 : g ≠ p := ne_of S.R.hg hp (by intro z; cases z)
  have n4 : t ≠ p := ne_of S.R.ht hp (by intro z; cases z)
  have n5 : o ≠ p := ne_of S.R.ho hp (by intro z; cases z)
  have n6 : sl ≠ p := ne_of S.hs hp (by intro z; cases z)
  have n7 : wl ≠ p := ne_of S.hw hp (by intro z; cases z)
  have n8 : p ∉ us := fun z => by
    obtain ⟨j, hj⟩ := List.mem_iff_getElem?.mp z
    have hl := (List.getElem?_eq_some_iff.mp hj).1
    obtain ⟨r', a1, a2⟩ := tu.2 j (ws[j]'(by rw [← tu.1]; exact hl)) (List.getElem?_eq_getElem _)
    rw [hj] at a1
    cases a1
    rw [hp] at a2
    cases a2
  refine ⟨us, rfl, tu, ?_, S.ob, S.R, S.hs, S.hw, tups_of tu n8, S.ok, n1, n2, n3, n4, n5, n6, n7⟩
  simp only [List.mem_cons, not_or]
  exact ⟨n1.symm, n2.symm, n3.symm, n4.symm, n5.symm, n6.symm, n7.symm, n8⟩
/-- p is written, some are new -/
theorem CoSep.step {H H' : Hp} {W RO : List Addr} {p : Addr} (S : CoSep H W RO) (hp : p ∈ W) (k : Kx p H H') (hp' : ∃ u, H' p = some u ∧ ∀ xs, u ≠ .tup xs) {N1 N2 : List Addr} (h1 : ∀ a ∈ N1, H a = none ∧ ∃ u, H' a = some u ∧ ∀ xs, u ≠ .tup xs) (h2 : ∀ a ∈ N2, H a = none ∧ ∃ u, H' a = some u) (nd : N1.Nodup) (ap : ∀ a ∈ N1, a ∉ N2) : CoSep H' (W ++ N1) (N2 ++ RO) := by
  have inW : ∀ x ∈ W, H x ≠ none := fun x hx z => by
    obtain ⟨u, e, _⟩ := S.nt x hx
    rw [e] at z
    cases z
  have inR : ∀ x ∈ RO, H x ≠ none := fun x hx z => by
    obtain ⟨u, e⟩ := S.ro x hx
    rw [e] at z
    cases z
  refine ⟨List.nodup_append.mpr ⟨S.nd, nd, fun a ha b hb e => inW a ha (by rw [e]; exact (h1 b hb).1)⟩, fun x hx hr => ?_, fun x hx => ?_, fun x hx => ?_⟩
  · rcases List.mem_append.mp hx with hx | hx <;> rcases List.mem_append.mp hr with hr | hr
    · exact inW x hx (h2 x hr).1
    · exact S.ap x hx hr
    · exact ap x hx hr
    · exact inR x hr (h1 x hx).1
  · rcases List.mem_append.mp hx with hx | hx
    · by_cases e : x = p
      · rw [e]
        exact hp'
      · obtain ⟨u, e1, e2⟩ := S.nt x hx
        exact ⟨u, k x u e e1, e2⟩
    · exact (h1 x hx).2
  · rcases List.mem_append.mp hx with hx | hx
    · exact (h2 x hx).2
    · obtain ⟨u, e1⟩ := S.ro x hx
      exact ⟨u, k x u (fun e => S.ap p hp (e ▸ hx)) e1⟩
theorem CoSep.sub {H : Hp} {W RO RO' : List Addr} (S : CoSep H W RO) (h : ∀ x ∈ RO', x ∈ RO) : CoSep H W RO' := ⟨S.nd, fun x hx hr => S.ap x hx (h x hr), S.nt, fun x hx => S.ro x (h x hx)⟩
theorem kx_free {p a : Addr} {H H' : Hp} (k : Kx p H H') (h : H' a = none) : a = p ∨ H a = none := by
  by_cases e : a = p
  · exact .inl e
  · refine .inr ?_
    cases z : H a with
    | none => rfl
    | some u =>
      rw [k a u e z] at h
      cases h
theorem qat_same {H H' : Hp} {q : Addr} {us : List Addr} {ps : List Tri} (h : QAt H q us ps) (S : Same H H') : QAt H' q us ps := ⟨S _ _ h.hl, triI_keep h.tr fun r xs e => S r _ e, h.hp⟩
theorem start_snoc (bs : List Int) (i : Nat) : (List.range (i + 1)).map (fun c => ((bs.getD c 0, (c : Int), 0) : Tri3)) = (List.range i).map (fun c => ((bs.getD c 0, (c : Int), 0) : Tri3)) ++ [(bs.getD i 0, (i : Int), 0)] := by
  rw [List.range_succ, List.map_append]
  rfl
section
variable {P : Program} {w : World} {K : PySem.W.Frag} {mg : Str → Option Value} {base : Heap}
def spCo0 (C CS CC CG CLp : Addr) : Sp := fun vs H Q _ => ∃ (a p dx sc r g t o sl wl : Addr) (gs : List Int) (tl : Tl) (bs : List Int) (rs : List V) (ws : List (Int × Int)) (n : Int), vs = [.ref p, .ref sc] ∧ H p = some (.ins CC dx []) ∧ SceneAt C CS a H sc r g t o sl wl gs tl bs rs ws n ∧
  ∀ (A : CoA) (s : CoS) (H' : Hp), A.p = p → A.sc = sc → A.wl = wl → Kx p H H' → (∀ x ∈ A.wr [], x = p ∨ H x = none) → CoAt C CS CC CG CLp H' A ⟨gs, tl, bs, ws, n⟩ s [] → CoS0 ⟨gs, tl, bs, ws, n⟩ s → Q .non H'
def co0N : List Str := ["self", "scene", "client", "start"]
theorem scCo0 : FnScope co0N ["self", "scene"] (defScope s_Course_ddinitdd) := ⟨rfl, rfl, rfl, by decide +kernel, rfl, by decide +kernel, by decide +kernel⟩
theorem ok_co0 {f C CS CC CG CLp fS fR fG fL : Addr} {fd fdS fdR fdG fdL : FuncData} (F : Fun K "__init__" "Course.__init__" s_Course_ddinitdd f fd) (T : Txt K mg C) (TS : TxtS K mg CS) (TC : TxtC K mg CC) (TG : TxtG K mg CG) (TP : TxtP K mg CLp)
    (GS : FnOk P w K mg base CX0 1 fS fdS ["self"] (spSts C CS)) (bS : Binds K fdS ["self"] []) (mS : Meth K CS "starts" fS) (GR : FnOk P w K mg base CX0 5 fR fdR ["self"] (spRul C CS)) (bR : Binds K fdR ["self"] []) (mR : Meth K CS "rule" fR)
    (MG : Mk K CG fG) (GG : FnOk P w K mg base CX0 2 fG fdG ["self", "rule"] (spSg0 C CG)) (bG : Binds K fdG ["self", "rule"] [])
    (ML : Mk K CLp fL) (GL : FnOk P w K mg base CX0 4 fL fdL ["self", "rule"] (spLpX C CLp)) (bL : Binds K fdL ["self", "rule"] []) : FnOk P w K mg base CX0 6 f fd ["self", "scene"] (spCo0 C CS CC CG CLp) := by
  refine F.ok scCo0 (fun vs H Q E h => ?_) (fun cdv A outer s H vs Q E hr h => ?_)
  · obtain ⟨a, p, dx, sc, r, g, t, o, sl, wl, gs, tl, bs, rs, ws, n, rfl, _⟩ := h
    rfl
  · obtain ⟨a, p, dx, sc, r, g, t, o, sl, wl, gs, tl, bs, rs, ws, n, rfl, hp, S, k⟩ := h
    have hr1 := hr.mono (show 1 ≤ 5 by decide)
    have hr3 := hr.mono (show 3 ≤ 5 by decide)
    refine ⟨_, (pss_cons (ps_fld (pv 0) (pv 1) rfl) (pss_cons (ps_fld (pv 0) (pe_meth0 (pv 1) TS.cl mS GS hr1 bS .nil pass0) rfl) (pss_cons (ps_fld (pv 0) (pe_make MG GG hr3 rfl TG.mgG bG .nil pass0 (pa_cons (pe_meth0 (pv 1) TS.cl mR GR hr bR .nil pass0) pa_nil)) rfl) (pss_cons (ps_fld (pv 0) (pe_make ML GL hr rfl TP.mgP bL .nil pass0 (pa_cons (pe_meth0 (pv 1) TS.cl mR GR hr bR .nil pass0) pa_nil)) rfl) (pss_cons (ps_fld (pv 0) (pe_lst pa_nil) rfl) (pss_cons (ps_for PassesOwn.never rfl (pi_enum (by rfl) TS.enum (pa_cons (pe_fld (pv 0) rfl) pa_nil)) (pg_tup rfl (pgs_cons (pg_name (i := 2) scCo0.nd rfl (Or.inl rfl)) (pgs_cons (pg_name (i := 3) scCo0.nd rfl (Or.inl rfl)) pgs_nil))) (pss_one (ps_expr (pe_callG (cr_push hr.units) rfl TC.push (pa_cons (pe_fld (pv 0) rfl) (pa_cons (pe_tup (pa_cons (pv 3) (pa_cons (pv 2) (pa_cons pe_int pa_nil)))) pa_nil)))))) (pss_cons (ps_fld (pv 0) (pe_callB (cr_min rfl) (by rfl) T.min (by decide +kernel) (pa_cons (pe_fld (pv 0) rfl) pa_nil)) rfl) (pss_cons (ps_fld (pv 0) (pe_callB call_len_seq (by rfl) T.len (by decide +kernel) (pa_cons (pe_lc (own := [("start", 3)]) (g := gName 3) rfl scCo0.nd (pi_list (pe_fld (pv 0) rfl)) (blkOk_by (own := [("start", 3)]) (N := co0N) (sc := (defScope s_Course_ddinitdd)) (by decide +kernel)) (fun _ _ _ _ _ => (pg_name (i := 3) scCo0.nd rfl (Or.inl rfl))) (fun _ _ _ _ _ => pts_one (pt_cmpR op_eq (pe_bmK (K := K) (T := "list") rfl (pe_bm (r := rCntI K) PySem.F.plainAttrs_list PySem.F.slot_list_count PySem.F.type_list_count mt_lcount (pe_fldK K (by rfl) (pv 0) rfl) (pa_cons (pv 3) pa_nil))) pe_int (nomark _))) (fun _ _ _ _ _ => (pv 3))) pa_nil)) rfl) (pss_one (ps_fld (pv 0) (pe_lst pa_nil) rfl)))))))))), ?_⟩
    obtain ⟨us, rfl, tu, pap, Sp⟩ := scene_ap S hp
    have sep0 : CoSep H [p] (sc :: r :: g :: t :: o :: sl :: wl :: us) := by
      obtain ⟨dx1, e1⟩ := S.ob
      obtain ⟨dx2, e2⟩ := S.R.ob
      refine ⟨nodup_one p, fun x hx => by rw [List.mem_singleton.mp hx]; exact pap, fun x hx => by rw [List.mem_singleton.mp hx]; exact ⟨_, hp, fun xs e => by cases e⟩, fun x hx => ?_⟩
      simp only [List.mem_cons] at hx
      rcases hx with rfl | rfl | rfl | rfl | rfl | rfl | rfl | hx
      · exact ⟨_, e1⟩
      · exact ⟨_, e2⟩
      · exact ⟨_, S.R.hg⟩
      · exact ⟨_, S.R.ht⟩
      · exact ⟨_, S.R.ho⟩
      · exact ⟨_, S.hs⟩
      · exact ⟨_, S.hw⟩
      · obtain ⟨j, hj⟩ := List.mem_iff_getElem?.mp hx
        have hl := (List.getElem?_eq_some_iff.mp hj).1
        obtain ⟨r', a1, a2⟩ := tu.2 j (ws[j]'(by rw [← tu.1]; exact hl)) (List.getElem?_eq_getElem _)
        rw [hj] at a1
        cases a1
        exact ⟨_, a2⟩
    refine ⟨_, rfl, _, rfl, p, CC, dx, _, rfl, hp, TC.cl, TC.n1, (by show 0 < 1000; decide), ?_⟩
    have kx1 : Kx p H (upd H p (.ins CC dx (putF "_scene" (.ref sc) []))) := Kx.upd
    have hp1 : (upd H p (.ins CC dx (putF "_scene" (.ref sc) []))) p = some (.ins CC dx (cf1 sc)) := upd_same
    generalize upd H p (.ins CC dx (putF "_scene" (.ref sc) [])) = H1 at kx1 hp1
    have S1 := Sp.kx kx1
    have sep1 := sep0.step (N1 := []) (N2 := []) (List.mem_singleton.mpr rfl) kx1 ⟨_, hp1, fun xs e => by cases e⟩ (fun a h => nomatch h) (fun a h => nomatch h) List.Pairwise.nil (fun a h => nomatch h)
    obtain ⟨dxs, obs⟩ := S1.ob
    refine ⟨_, rfl, sc, dxs, _, rfl, obs, sflds_no _ _ _ _ (by decide +kernel) (by decide +kernel) (by decide +kernel) (by decide +kernel), p, sc, r, g, t, o, sl, wl, gs, tl, bs, _, ws, n, rfl, S1, fun st hst => ?_⟩
    have st1 := same_new (o := .lst (bs.map V.int)) hst
    have eS : (upd H1 st (.lst (bs.map V.int))) st = some (.lst (bs.map V.int)) := upd_same
    have nsp : st ≠ p := (ne_of_none hp1 hst).symm
    have hpS := st1 _ _ hp1
    refine ⟨_, rfl, p, CC, dx, _, rfl, hpS, TC.cl, TC.n2, (by show 1 < 1000; decide), ?_⟩
    rw [cf2_]
    have kx2 : Kx p H1 (upd (upd H1 st (.lst (bs.map V.int))) p (.ins CC dx (cf2 sc st))) := (Kx.of st1).trans Kx.upd
    have hp2 : (upd (upd H1 st (.lst (bs.map V.int))) p (.ins CC dx (cf2 sc st))) p = some (.ins CC dx (cf2 sc st)) := upd_same
    have hst2 : (upd (upd H1 st (.lst (bs.map V.int))) p (.ins CC dx (cf2 sc st))) st = some (.lst (bs.map V.int)) := by rw [upd_ne nsp]; exact eS
    generalize upd (upd H1 st (.lst (bs.map V.int))) p (.ins CC dx (cf2 sc st)) = H2 at kx2 hp2 hst2
    have S2 := S1.kx kx2
    have sep2 := sep1.step (N1 := []) (N2 := [st]) (by simp) kx2 ⟨_, hp2, fun xs e => by cases e⟩ (fun a h => nomatch h) (fun a h => by rw [List.mem_singleton.mp h]; exact ⟨hst, _, hst2⟩) List.Pairwise.nil (fun a h => nomatch h)
    obtain ⟨dxs2, obs2⟩ := S2.ob
    have snR : (sflds r sl wl n).lookup ("rule" : Str) = none := sflds_no _ _ _ _ (by decide +kernel) (by decide +kernel) (by decide +kernel) (by decide +kernel)
    -- the single gaps
    refine ⟨_, rfl, sc, dxs2, _, rfl, obs2, snR, p, sc, r, g, t, o, sl, wl, gs, tl, bs, _, ws, n, rfl, S2, fun q2 g2 o2 H3 St3 hq2 R3 => ?_⟩
    refine fun sg dxg hsg hdxg _ => ?_
    have Sm3 := made_same (o1 := .own sg) (o2 := .ins CG dxg []) hsg hdxg
    refine ⟨sg, dxg, q2, g2, t, o2, gs, tl, rfl, upd_same, R3.mono Sm3, fun gl j H4 hgl hj kxg G4 => ⟨rfl, ?_⟩⟩
    have S24 : Same H2 H4 := fun c u e => kxg c u (ne_of_none (St3 _ _ e) hsg) (Sm3 _ _ (St3 _ _ e))
    have sg2 : H2 sg = none := St3.free hsg
    have gl2 : H2 gl = none := St3.free (Sm3.free hgl)
    obtain ⟨dxg4, og4⟩ := G4.ob
    have hp4 := S24 _ _ hp2
    have nsg : sg ≠ p := (ne_of_none hp2 sg2).symm
    have ngl : gl ≠ p := (ne_of_none hp2 gl2).symm
    have ngs : gl ≠ sg := ne_of G4.hl og4 (by intro z; cases z)
    refine ⟨_, rfl, p, CC, dx, _, rfl, hp4, TC.cl, TC.n3, (by show 2 < 1000; decide), ?_⟩
    rw [cf3_]
    have kx3 : Kx p H2 (upd H4 p (.ins CC dx (cf3 sc st sg))) := (Kx.of S24).trans Kx.upd
    have hp3 : (upd H4 p (.ins CC dx (cf3 sc st sg))) p = some (.ins CC dx (cf3 sc st sg)) := upd_same
    have G3 : SgAt CG (upd H4 p (.ins CC dx (cf3 sc st sg))) sg gl gs tl j := G4.kx Kx.upd nsg ngl
    generalize upd H4 p (.ins CC dx (cf3 sc st sg)) = H5 at kx3 hp3 G3
    have S3 := S2.kx kx3
    have hst3 := kx3 _ _ nsp hst2
    obtain ⟨dxg5, og5⟩ := G3.ob
    have sep3 := sep2.step (N1 := [gl]) (N2 := [sg]) (by simp) kx3 ⟨_, hp3, fun xs e => by cases e⟩ (fun a h => by rw [List.mem_singleton.mp h]; exact ⟨gl2, _, G3.hl, fun xs e => by cases e⟩) (fun a h => by rw [List.mem_singleton.mp h]; exact ⟨sg2, _, og5⟩) (nodup_one gl) (fun a h h' => ngs ((List.mem_singleton.mp h).symm.trans (List.mem_singleton.mp h')))
    obtain ⟨dxs3, obs3⟩ := S3.ob
    -- the loop
    refine ⟨_, rfl, sc, dxs3, _, rfl, obs3, snR, p, sc, r, g, t, o, sl, wl, gs, tl, bs, _, ws, n, rfl, S3, fun q3 g3 o3 H6 St6 hq3 R6 => ?_⟩
    refine fun lp dxl hlp hdxl _ => ?_
    have Sm6 := made_same (o1 := .own lp) (o2 := .ins CLp dxl []) hlp hdxl
    refine ⟨lp, dxl, q3, g3, t, o3, gs, tl, rfl, upd_same, R6.mono Sm6, fun lo ld H7 hlo hld kl ol7 lo7 ld7 => ⟨rfl, ?_⟩⟩
    have S57 : Same H5 H7 := fun c u e => kl c u (Sm6 _ _ (St6 _ _ e)) (ne_of_none (St6 _ _ e) hlp)
    have lp5 : H5 lp = none := St6.free hlp
    have lo5 : H5 lo = none := St6.free (Sm6.free hlo)
    have ld5 : H5 ld = none := St6.free (Sm6.free hld)
    have hp7 := S57 _ _ hp3
    have nlp : lp ≠ p := (ne_of_none hp3 lp5).symm
    have nlo : lo ≠ p := (ne_of_none hp3 lo5).symm
    have nld : ld ≠ p := (ne_of_none hp3 ld5).symm
    have n12 : ld ≠ lp := ne_of ld7 ol7 (by intro z; cases z)
    have n13 : lo ≠ lp := ne_of lo7 ol7 (by intro z; cases z)
    have n23 : lo ≠ ld := ne_of lo7 ld7 (by intro z; cases z)
    refine ⟨_, rfl, p, CC, dx, _, rfl, hp7, TC.cl, TC.n4, (by show 3 < 1000; decide), ?_⟩
    rw [cf4_]
    have kx4 : Kx p H5 (upd H7 p (.ins CC dx (cf4 sc st sg lp))) := (Kx.of S57).trans Kx.upd
    have hp4' : (upd H7 p (.ins CC dx (cf4 sc st sg lp))) p = some (.ins CC dx (cf4 sc st sg lp)) := upd_same
    have L8 : LoopX CLp (upd H7 p (.ins CC dx (cf4 sc st sg lp))) lp lo ld gs tl bs [] [] [] none false := by
      have a1 : (upd H7 p (.ins CC dx (cf4 sc st sg lp))) lp = some (.ins CLp dxl (lpf (perV gs tl) (frV gs tl) lo ld .non false)) := by rw [upd_ne nlp]; exact ol7
      have a2 : (upd H7 p (.ins CC dx (cf4 sc st sg lp))) lo = some (.lst ((repO gs tl).map V.int)) := by rw [upd_ne nlo]; exact lo7
      have a3 : (upd H7 p (.ins CC dx (cf4 sc st sg lp))) ld = some (.dK []) := by rw [upd_ne nld]; exact ld7
      cases tl with
      | rep m => exact ⟨⟨dxl, a1⟩, a2, ⟨a3, List.Pairwise.nil, List.Pairwise.nil, rfl, (fun j r a e _ => nomatch e), fun _ _ => rfl⟩, (fun h => nomatch h), fun r hr => (nomatch hr), fun r => Nat.zero_le _, S.R.okG, S.R.okT.1, S.R.okT.2⟩
      | fin => exact ⟨⟨⟨dxl, a1⟩, a2, a3⟩, rfl, rfl, rfl⟩
      | times b => exact ⟨⟨⟨dxl, a1⟩, a2, a3⟩, rfl, rfl, rfl⟩
    generalize upd H7 p (.ins CC dx (cf4 sc st sg lp)) = H8 at kx4 hp4' L8
    have S4 := S3.kx kx4
    have hst4 := kx4 _ _ nsp hst3
    have G4' := G3.kx kx4 nsg ngl
    have lpob : ∃ u, H8 lp = some u ∧ ∀ xs, u ≠ .tup xs := by
      cases tl with
      | rep m => obtain ⟨d1, e1⟩ := LoopAt.ob L8; exact ⟨_, e1, fun xs e => by cases e⟩
      | fin => obtain ⟨d1, e1⟩ := L8.1.ob; exact ⟨_, e1, fun xs e => by cases e⟩
      | times b => obtain ⟨d1, e1⟩ := L8.1.ob; exact ⟨_, e1, fun xs e => by cases e⟩
    have ldob : ∃ u, H8 ld = some u ∧ ∀ xs, u ≠ .tup xs := by
      cases tl with
      | rep m => exact ⟨_, (LoopAt.D L8).hd, fun xs e => by cases e⟩
      | fin => exact ⟨_, L8.1.hd, fun xs e => by cases e⟩
      | times b => exact ⟨_, L8.1.hd, fun xs e => by cases e⟩
    have loob : ∃ u, H8 lo = some u := by
      cases tl with
      | rep m => exact ⟨_, LoopAt.ho L8⟩
      | fin => exact ⟨_, L8.1.ho⟩
      | times b => exact ⟨_, L8.1.ho⟩
    have sep4 := sep3.step (N1 := [lp, ld]) (N2 := [lo]) (by simp) kx4 ⟨_, hp4', fun xs e => by cases e⟩ (fun a h => by
      rcases List.mem_cons.mp h with rfl | h
      · exact ⟨lp5, lpob⟩
      · rw [List.mem_singleton.mp h]
        exact ⟨ld5, ldob⟩) (fun a h => by rw [List.mem_singleton.mp h]; exact ⟨lo5, loob⟩) (List.nodup_cons.mpr ⟨fun h => n12 (List.mem_singleton.mp h).symm, nodup_one ld⟩) (fun a h h' => by
      rw [List.mem_singleton.mp h'] at h
      rcases List.mem_cons.mp h with h | h
      · exact n13 h
      · exact n23 (List.mem_singleton.mp h))
    -- the queue
    refine ⟨(by show 0 ≤ sizeLine; decide), fun q hq => ?_⟩
    have stq := same_new (o := .lst ([] : List V)) hq
    have nqp : q ≠ p := (ne_of_none hp4' hq).symm
    refine ⟨_, rfl, p, CC, dx, _, rfl, stq _ _ hp4', TC.cl, TC.n5, (by show 4 < 1000; decide), ?_⟩
    rw [cf5_]
    have kx5 : Kx p H8 (upd (upd H8 q (.lst ([] : List V))) p (.ins CC dx (cf5 sc st sg lp q))) := (Kx.of stq).trans Kx.upd
    have hp5 : (upd (upd H8 q (.lst ([] : List V))) p (.ins CC dx (cf5 sc st sg lp q))) p = some (.ins CC dx (cf5 sc st sg lp q)) := upd_same
    have hq5 : (upd (upd H8 q (.lst ([] : List V))) p (.ins CC dx (cf5 sc st sg lp q))) q = some (.lst []) := by rw [upd_ne nqp, upd_same]
    generalize upd (upd H8 q (.lst ([] : List V))) p (.ins CC dx (cf5 sc st sg lp q)) = H9 at kx5 hp5 hq5
    have sep5 := sep4.step (N1 := [q]) (N2 := []) (by simp) kx5 ⟨_, hp5, fun xs e => by cases e⟩ (fun a h => by rw [List.mem_singleton.mp h]; exact ⟨hq, _, hq5, fun xs e => by cases e⟩) (fun a h => nomatch h) (nodup_one q) (fun a h h' => nomatch h')
    have hst5 := kx5 _ _ nsp hst4
    have kxA : Kx p H H9 := (((kx1.trans kx2).trans kx3).trans kx4).trans kx5
    refine ⟨_, rfl, p, CC, dx, _, _, rfl, hp5, TC.cl, TC.n2, rfl, ?_⟩
    have npq : p ≠ q := nqp.symm
    have nsq : st ≠ q := ne_of_none hst4 hq
    have h40 := S.ok.b40
    refine ⟨st, _, rfl, SqL.of hst5, for_it (walk_enum (a := st) (xs := bs.map V.int)) (fun i σ H' => ∃ v2 v3 us' ps, σ = [some (.ref p), some (.ref sc), v2, v3] ∧ Kx q H9 H' ∧ QAt H' q us' ps ∧ ps.Perm ((List.range i).map fun c => ((bs.getD c 0, (c : Int), 0) : Tri3))) ⟨none, none, [], [], rfl, Kx.refl q H9, ⟨hq5, ⟨rfl, fun j p e => nomatch e⟩, fun i p q _ e => nomatch e⟩, List.Perm.refl _⟩ (fun i σ H' _ z => ?_) ?_ ?_⟩
    · obtain ⟨_, _, _, _, _, kq, _⟩ := z
      exact SqL.of (kq _ _ nsq hst5)
    · rintro i x σ Ha Hb hi ⟨v2, v3, us', ps, rfl, kq, qa, pp⟩ ⟨T2, x1, y1, rfl, hT, rfl, hx1, hy1⟩
      obtain rfl := Option.some.inj hx1
      obtain ⟨y, hy, rfl⟩ := map_of hy1
      have hil := (List.getElem?_eq_some_iff.mp hy).1
      have sT := same_new (o := .tup [V.int (i : Nat), .int y]) hT
      have hT3 : (upd Ha T2 (.tup [V.int (i : Nat), .int y])) T2 = some (.tup [V.int (i : Nat), .int y]) := upd_same
      have kq2 := kq.trans (Kx.of sT)
      have qa2 := qat_same qa sT
      generalize upd Ha T2 (.tup [V.int (i : Nat), .int y]) = Hb at kq2 qa2 hT3
      refine ⟨T2, _, rfl, SqT.of hT3, rfl, _, _, rfl, _, _, rfl, rfl, ?_⟩
      have hpb := kq2 _ _ npq hp5
      refine ⟨_, rfl, p, CC, dx, _, _, rfl, hpb, TC.cl, TC.n5, rfl, _, rfl, _, rfl, (by show 3 ≤ sizeLine; decide), fun t1 ht1 => ?_⟩
      have sT1 := same_new (o := .tup [V.int y, .int (i : Nat), .int 0]) ht1
      have ht1' : (upd Hb t1 (.tup [V.int y, .int (i : Nat), .int 0])) t1 = some (.tup [V.int y, .int (i : Nat), .int 0]) := upd_same
      have kq3 := kq2.trans (Kx.of sT1)
      have qa3 := qat_same qa2 sT1
      generalize upd Hb t1 (.tup [V.int y, .int (i : Nat), .int 0]) = Hc at kq3 qa3 ht1'
      have lu : us'.length = i := by rw [qa3.tr.1, pp.length_eq, List.length_map, List.length_range]
      refine ⟨q, t1, us', ps, (y, (i : Int), 0), rfl, qa3, ht1', by rw [lu]; exact Nat.lt_of_le_of_lt (show i ≤ 100 by omega) (by decide), fun us2 ps2 qa4 pp2 _ => ⟨_, _, us2, ps2, rfl, kq3.trans Kx.upd, qa4, pp2.trans ?_⟩⟩
      rw [start_snoc]
      have ey : bs.getD i 0 = y := by rw [List.getD_eq_getElem?_getD, hy]; rfl
      rw [ey]
      exact pp.append_right _
    rintro σ Ha ⟨v2, v3, us', ps, rfl, kq, qa, pp⟩
    rw [List.length_map] at pp
    have hpa := kq _ _ npq hp5
    have hsta := kq _ _ nsq hst5
    have sepa := sep5.keep (T := [q]) (fun c u e z => kq c u (fun y => z (by rw [y]; exact List.mem_singleton.mpr rfl)) e) (fun x hx => by rw [List.mem_singleton.mp hx]; simp) (fun x hx => by rw [List.mem_singleton.mp hx]; exact ⟨_, qa.hl, fun xs e => by cases e⟩)
    have G5 := G4'.kx kx5 nsg ngl
    have L5 : LoopX CLp H9 lp lo ld gs tl bs [] [] [] none false := L8.keep fun c hc u e => by
      refine kx5 c u (fun z => ?_) e
      subst z
      simp only [List.mem_cons, List.not_mem_nil, or_false] at hc
      rcases hc with h | h | h
      · exact nlp h.symm
      · exact nlo h.symm
      · exact nld h.symm
    -- the first slot
    refine ⟨_, rfl, p, CC, dx, _, _, rfl, hpa, TC.cl, TC.n2, rfl, st, bs, rfl, SqL.of hsta, by have := S.ok.b1; omega, fun F hF1 hF2 => ?_⟩
    refine ⟨_, rfl, p, CC, dx, _, rfl, hpa, TC.cl, TC.n6, (by show 5 < 1000; decide), ?_⟩
    rw [cf6_]
    have kx6 : Kx p Ha (upd Ha p (.ins CC dx (cf6 sc st sg lp q F))) := Kx.upd
    have hp6 : (upd Ha p (.ins CC dx (cf6 sc st sg lp q F))) p = some (.ins CC dx (cf6 sc st sg lp q F)) := upd_same
    generalize upd Ha p (.ins CC dx (cf6 sc st sg lp q F)) = Hd at kx6 hp6
    have hst6 := kx6 _ _ nsp hsta
    refine ⟨_, rfl, p, CC, dx, _, _, rfl, hp6, TC.cl, TC.n2, rfl, st, rfl, ⟨_, SqL.of hst6⟩, fun D hD => lc_list (a := st) (xs := bs.map V.int) (fun i H' => Same Hd H' ∧ H' D = some (.lst (((bs.take i).filter fun b => decide (bs.count b = 1)).map V.int))) ⟨same_new hD, upd_same⟩ (fun i H' _ z => SqL.of (z.1 _ _ hst6)) (fun i x He hx z => ?_) (fun He z => ?_)⟩
    · obtain ⟨y, hy, rfl⟩ := map_of hx
      obtain ⟨Sz, hDz⟩ := z
      have hil := (List.getElem?_eq_some_iff.mp hy).1
      refine ⟨rfl, ?_⟩
      refine ⟨_, rfl, p, CC, dx, _, _, rfl, Sz _ _ hp6, TC.cl, TC.n2, rfl, ?_⟩
      have hsz := Sz _ _ hst6
      refine ⟨.inl ⟨rfl, _, SqL.of hsz⟩, _, rfl, st, bs, y, rfl, rfl, SqL.of hsz, rfl, _, rfl, ?_⟩
      rw [List.take_add_one, hy, List.filter_append, List.map_append]
      by_cases h1 : bs.count y = 1
      · refine iteTb (decide_eq_true (by rw [h1]; rfl)) ?_
        refine ⟨_, rfl, _, hDz, ?_, same_app hD Sz, ?_⟩
        · rw [List.length_map]
          have h3 := List.length_filter_le (fun b => decide (bs.count b = 1)) (bs.take i)
          rw [List.length_take] at h3
          exact small_line (by omega)
        · rw [upd_same]
          show _ = some (HO.lst (_ ++ (List.filter _ [y]).map V.int))
          rw [show List.filter (fun b => decide (bs.count b = 1)) [y] = [y] by simp [h1]]
          rfl
      · refine iteFb (decide_eq_false (fun z => h1 (by have := V.int.inj z; omega))) ⟨Sz, ?_⟩
        show _ = some (HO.lst (_ ++ (List.filter _ [y]).map V.int))
        rw [show List.filter (fun b => decide (bs.count b = 1)) [y] = [] by simp [h1], List.map_nil, List.append_nil]
        exact hDz
    obtain ⟨Sz, hDz⟩ := z
    rw [List.length_map, List.take_length] at hDz
    have hpe := Sz _ _ hp6
    refine ⟨D, _, rfl, .inl (SqL.of hDz), ?_⟩
    rw [List.length_map, ← un_start]
    refine ⟨_, rfl, p, CC, dx, _, rfl, hpe, TC.cl, TC.n7, (by show 6 < 1000; decide), ?_⟩
    rw [cf7_]
    have kx7 : Kx p Hd (upd He p (.ins CC dx (cf7 sc st sg lp q F (unS bs []).length))) := (Kx.of Sz).trans Kx.upd
    have hp7' : (upd He p (.ins CC dx (cf7 sc st sg lp q F (unS bs []).length))) p = some (.ins CC dx (cf7 sc st sg lp q F (unS bs []).length)) := upd_same
    generalize upd He p (.ins CC dx (cf7 sc st sg lp q F (unS bs []).length)) = Hf at kx7 hp7'
    refine ⟨(by show 0 ≤ sizeLine; decide), fun sv hsv => ?_⟩
    have stv := same_new (o := .lst ([] : List V)) hsv
    have nvp : sv ≠ p := (ne_of_none hp7' hsv).symm
    refine ⟨_, rfl, p, CC, dx, _, rfl, stv _ _ hp7', TC.cl, TC.n8, (by show 7 < 1000; decide), ?_⟩
    rw [cf8_]
    have kx8 : Kx p Hf (upd (upd Hf sv (.lst ([] : List V))) p (.ins CC dx (cf8 sc st sg lp q F (unS bs []).length sv))) := (Kx.of stv).trans Kx.upd
    have hp8 : (upd (upd Hf sv (.lst ([] : List V))) p (.ins CC dx (cf8 sc st sg lp q F (unS bs []).length sv))) p = some (.ins CC dx (cf8 sc st sg lp q F (unS bs []).length sv)) := upd_same
    have hv8 : (upd (upd Hf sv (.lst ([] : List V))) p (.ins CC dx (cf8 sc st sg lp q F (unS bs []).length sv))) sv = some (.lst []) := by rw [upd_ne nvp, upd_same]
    generalize upd (upd Hf sv (.lst ([] : List V))) p (.ins CC dx (cf8 sc st sg lp q F (unS bs []).length sv)) = Hg at kx8 hp8 hv8
    -- all in one
    have kx68 : Kx p Ha Hg := (kx6.trans kx7).trans kx8
    have hsvA : Ha sv = none := (kx_free (kx6.trans kx7) hsv).resolve_left nvp
    have sep8 := sepa.step (N1 := [sv]) (N2 := []) (by simp) kx68 ⟨_, hp8, fun xs e => by cases e⟩ (fun a h => by rw [List.mem_singleton.mp h]; exact ⟨hsvA, _, hv8, fun xs e => by cases e⟩) (fun a h => nomatch h) (nodup_one sv) (fun a h h' => nomatch h')
    have W8 : ∀ x, x ∈ [p, gl, lp, ld, q, sv] → x ∉ sc :: r :: g :: t :: o :: sl :: wl :: st :: sg :: lo :: us := fun x hx hr => by
      refine sep8.ap x hx ?_
      simp only [List.mem_append, List.mem_cons, List.not_mem_nil, or_false, false_or] at hr ⊢
      rcases hr with h | h | h | h | h | h | h | h | h | h | h <;> simp [h]
    have kpq : ∀ c u, H c = some u → c ≠ p → c ≠ q → Hg c = some u := fun c u e n1 n2 => kx68 c u n1 (kq c u n2 (kxA c u n1 e))
    have k9g : ∀ c u, H9 c = some u → c ≠ p → c ≠ q → Hg c = some u := fun c u e n1 n2 => kx68 c u n1 (kq c u n2 e)
    have nd8 : [p, gl, lp, ld, q, sv].Nodup := sep8.nd
    have r1 : ∀ c ∈ sc :: r :: g :: t :: o :: sl :: wl :: st :: sg :: lo :: us, c ≠ p ∧ c ≠ q := fun c hc => ⟨fun e => W8 p (by simp) (e ▸ hc), fun e => W8 q (by simp) (e ▸ hc)⟩
    have nglq : gl ≠ q := fun e => by rw [e] at nd8; simp at nd8
    have nlpq : lp ≠ q := fun e => by rw [e] at nd8; simp at nd8
    have nldq : ld ≠ q := fun e => by rw [e] at nd8; simp at nd8
    have hnsv : sv ≠ q := fun e => by rw [e] at nd8; simp at nd8
    refine k { p := p, sc := sc, r := r, g := g, t := t, o := o, sl := sl, wl := wl, st := st, sg := sg, gl := gl, lp := lp, lo := lo, ld := ld, q := q, sv := sv, rs := us } { free := F, S := [], Qs := ps, us := us', vs := [], M := [], ks := [], as := [], L := none, ch := false, j := j, wn := (unS bs []).length } Hg rfl rfl rfl ?_ ?_ ⟨⟨dx, hp8⟩, ?_, kx68 _ _ nsp hsta, ?_, ?_, ?_, hv8, TupsI.nil, ?_⟩ ⟨rfl, rfl, rfl, rfl, rfl, rfl, rfl, hj, rfl, pp, fun c hc => hF2 _ ?_⟩
    · intro c u n e
      by_cases z : c = q
      · rw [z] at e
        rw [((kx_free (((kx1.trans kx2).trans kx3).trans kx4) hq).resolve_left nqp)] at e
        cases e
      · exact kpq c u e n z
    · intro x hx
      simp only [CoA.wr, List.mem_cons, List.not_mem_nil, or_false] at hx
      rcases hx with rfl | rfl | rfl | rfl | rfl | rfl
      · exact .inl rfl
      · exact kx_free (kx1.trans kx2) gl2
      · exact kx_free ((kx1.trans kx2).trans kx3) lp5
      · exact kx_free ((kx1.trans kx2).trans kx3) ld5
      · exact kx_free (((kx1.trans kx2).trans kx3).trans kx4) hq
      · exact kx_free kxA ((kx_free kq hsvA).resolve_left hnsv)
    · have S0 : SceneR C CS H { p := p, sc := sc, r := r, g := g, t := t, o := o, sl := sl, wl := wl, st := st, sg := sg, gl := gl, lp := lp, lo := lo, ld := ld, q := q, sv := sv, rs := us } ⟨gs, tl, bs, ws, n⟩ := ⟨S.ob, S.R, S.hs, S.hw, tu, S.ok⟩
      exact S0.keep fun c hc u e => kpq c u e (r1 c hc).1 (r1 c hc).2
    · exact (G5.kx kq (r1 sg (by simp)).2 nglq).kx kx68 nsg ngl
    · refine L5.keep fun c hc u e => ?_
      simp only [List.mem_cons, List.not_mem_nil, or_false] at hc
      rcases hc with rfl | rfl | rfl
      · exact k9g _ _ e nlp nlpq
      · exact k9g _ _ e nlo (r1 _ (by simp)).2
      · exact k9g _ _ e nld nldq
    · exact ⟨kx68 _ _ nqp qa.hl, triI_keep qa.tr fun r' xs e => kx68 _ _ (fun z => by rw [z, hpa] at e; cases e) e, qa.hp⟩
    · exact (CoSep.sub (W := [p, gl, lp, ld, q, sv]) sep8 fun x hx => by
        simp only [CoA.ro, List.mem_append, List.mem_cons, List.not_mem_nil, or_false, false_or] at hx ⊢
        rcases hx with h | h | h | h | h | h | h | h | h | h | h <;> simp [h])
    · have hc : c < bs.length := hc
      show bs.getD c 0 ∈ bs
      rw [List.getD_eq_getElem?_getD, List.getElem?_eq_getElem hc]
      exact List.getElem_mem hc
end
end RS
namespace RS
open PySem L2 Hpq
/-! ### Course._following -/
theorem HpL.least {ps : List Tri} (h : HpL ps) {y : Tri} (h0 : ps[0]? = some y) : ∀ (n i : Nat) (x : Tri), i < n → ps[i]? = some x → Le3 y x
  | 0, _, _, hi, _ => absurd hi (Nat.not_lt_zero _)
  | n + 1, i, x, hi, hx => by
    by_cases z : i = 0
    · subst z
      rw [h0] at hx
      cases hx
      exact Le3.refl _
    · have hl := (List.getElem?_eq_some_iff.mp hx).1
      have hp : ps[(i - 1) / 2]? = some (ps[(i - 1) / 2]'(by omega)) := List.getElem?_eq_getElem _
      exact (HpL.least h h0 n ((i - 1) / 2) _ (by omega) hp).trans (h i _ _ (by omega) hp hx)
theorem HpL.low {ps : List Tri} (h : HpL ps) {y : Tri} (h0 : ps[0]? = some y) {x : Tri} (hx : x ∈ ps) : y.1 ≤ x.1 := by
  obtain ⟨i, hi⟩ := List.mem_iff_getElem?.mp hx
  have := HpL.least h h0 (i + 1) i x (by omega) hi
  unfold Le3 at this
  omega
/-- the next slot that may change something -/
def nextS (Qs : List Tri3) (L : Option Int) : Option Int := match Qs[0]? with
  | none => L
  | some x => match L with
    | none => some x.1
    | some l => if x.1 < l then some x.1 else some l
section
variable {P : Program} {w : World} {K : PySem.W.Frag} {mg : Str → Option Value} {base : Heap}
section
variable {C CS CC CG CLp : Addr} {H H' : Hp} {A : CoA} {D : ScD} {s : CoS} {X : List Addr}
theorem CoAt.lpw (c : CoAt C CS CC CG CLp H A D s X) (k : Kx A.lp H H') {L : Option Int} {ch : Bool} (R : LoopX CLp H' A.lp A.lo A.ld D.gs D.tl D.bs s.M s.ks s.as L ch) : CoAt C CS CC CG CLp H' A D { s with L := L, ch := ch } X := by
  have nd := c.wrn
  have hT : ∀ x ∈ [A.lp], x ∈ X ++ A.wr s.as := fun x hx => by rw [List.mem_singleton.mp hx]; simp [CoA.wr]
  have h : ∀ b u, H b = some u → b ∉ [A.lp] → H' b = some u := fun b u e z => k b u (fun y => z (by rw [y]; exact List.mem_singleton.mpr rfl)) e
  have p := c.kp hT h
  simp only [CoA.wr, List.nodup_cons, List.mem_cons, not_or] at nd
  have n1 : A.p ∉ [A.lp] := fun z => nd.1.2.1 (List.mem_singleton.mp z)
  have n2 : A.gl ∉ [A.lp] := fun z => nd.2.1.1 (List.mem_singleton.mp z)
  have n3 : A.q ∉ [A.lp] := fun z => nd.2.2.1.2.1 (List.mem_singleton.mp z).symm
  have n4 : A.sv ∉ [A.lp] := fun z => nd.2.2.1.2.2.1 (List.mem_singleton.mp z).symm
  have lpob : ∃ u, H' A.lp = some u ∧ ∀ xs, u ≠ .tup xs := by
    revert R
    cases D.tl with
    | rep m => intro R; obtain ⟨d1, e1⟩ := LoopAt.ob R; exact ⟨_, e1, fun xs e => by cases e⟩
    | fin => intro R; obtain ⟨d1, e1⟩ := R.1.ob; exact ⟨_, e1, fun xs e => by cases e⟩
    | times b => intro R; obtain ⟨d1, e1⟩ := R.1.ob; exact ⟨_, e1, fun xs e => by cases e⟩
  exact ⟨p.ob n1, p.scn, p.hst, p.sg n2, R, ⟨p.qL n3, p.qT, c.qA.hp⟩, p.svL n4, p.svT, c.sep.keep h hT fun x hx => by rw [List.mem_singleton.mp hx]; exact lpob⟩
end
def spFo (C CS CC CG CLp : Addr) : Sp := fun vs H Q _ => ∃ (A : CoA) (D : ScD) (s : CoS) (X : List Addr), vs = [.ref A.p] ∧ CoAt C CS CC CG CLp H A D s X ∧ s.ks.length ≤ 100000 ∧ (s.ch = false → ∃ q, q ≤ s.free ∧ LoneH D.gs D.tl D.bs s.M q s.L) ∧
  ∀ L' H', Kx A.lp H H' → CoAt C CS CC CG CLp H' A D { s with L := L', ch := false } X → LoneH D.gs D.tl D.bs s.M s.free L' → Q (optV (nextS s.Qs L')) H'
theorem scFo : FnScope ["self", "lone"] ["self"] (defScope s_Course_following) := ⟨rfl, rfl, rfl, by decide +kernel, rfl, by decide +kernel, by decide +kernel⟩
theorem ok_fo {f C CS CC CG CLp fL : Addr} {fd fdL : FuncData} (F : Fun K "_following" "Course._following" s_Course_following f fd) (T : Txt K mg C) (TC : TxtC K mg CC) (TP : TxtP K mg CLp)
    (GL : FnOk P w K mg base CX0 1 fL fdL ["self", "slot"] (spLfX CLp)) (bL : Binds K fdL ["self", "slot"] []) (mL : Meth K CLp "lone_from" fL) : FnOk P w K mg base CX0 2 f fd ["self"] (spFo C CS CC CG CLp) := by
  refine F.ok scFo (fun vs H Q E h => ?_) (fun cdv A outer s H vs Q E hr h => ?_)
  · obtain ⟨A, D, s, X, rfl, _⟩ := h
    rfl
  · obtain ⟨A, D, st, X, rfl, c, hk, hl, k⟩ := h
    refine ⟨_, (pss_cons (ps_set (i := 1) scFo.nd rfl (Or.inl rfl) (pe_meth (pe_fld (pv 0) rfl) TP.cl mL GL hr bL .nil pass0 (pa_cons (pe_fld (pv 0) rfl) pa_nil))) (pss_cons (ps_if (PW.pt (pw_and (pt_truth (pe_fld (pv 0) rfl) (fun _ => rfl)) (pw_and1 (PW.pt (pw_or (pt_cmpR op_isN (pv 1) pe_non (nomark _)) (pw_or1 (pt_cmpR op_lt (pe_ix ix_tup (pe_ix ix_list (pe_fld (pv 0) rfl) pe_int (fun _ _ => rfl)) pe_int (fun _ _ => rfl)) (pv 1) (nomark _)))))))) (pss_one (ps_ret (pe_ix ix_tup (pe_ix ix_list (pe_fld (pv 0) rfl) pe_int (fun _ _ => rfl)) pe_int (fun _ _ => rfl)))) pss_nil) (pss_one (ps_ret (pv 1))))), ?_⟩
    obtain ⟨dx, hob⟩ := c.ob
    have lpob : ∃ dl Pv Fv Lv, H A.lp = some (.ins CLp dl (lpf Pv Fv A.lo A.ld Lv st.ch)) := by
      have R := c.lp
      revert R
      cases D.tl with
      | rep m => intro R; obtain ⟨d1, e1⟩ := LoopAt.ob R; exact ⟨_, _, _, _, e1⟩
      | fin => intro R; obtain ⟨d1, e1⟩ := R.1.ob; exact ⟨_, _, _, _, e1⟩
      | times b => intro R; obtain ⟨d1, e1⟩ := R.1.ob; exact ⟨_, _, _, _, e1⟩
    obtain ⟨dl, Pv, Fv, Lv, hlp⟩ := lpob
    refine ⟨_, rfl, A.p, CC, dx, _, _, rfl, hob, TC.cl, TC.n4, crf_4 _ _ _, A.lp, dl, _, rfl, hlp, lpf_no _ _ _ _ _ _ (by decide +kernel) (by decide +kernel) (by decide +kernel) (by decide +kernel) (by decide +kernel) (by decide +kernel), ?_⟩
    refine ⟨_, rfl, A.p, CC, dx, _, _, rfl, hob, TC.cl, TC.n6, crf_6 _ _ _, ?_⟩
    refine ⟨A.lp, A.lo, A.ld, D.gs, D.tl, D.bs, st.M, st.ks, st.as, st.L, st.ch, st.free, rfl, c.lp, hk, hl, fun L' H1 kx R1 lone => ?_⟩
    have c1 := c.lpw kx R1
    obtain ⟨dx1, hob1⟩ := c1.ob
    have k1 := k L' H1 kx c1 lone
    have hl1 := c1.qA.hl
    refine ⟨_, rfl, A.p, CC, dx1, _, _, rfl, hob1, TC.cl, TC.n5, crf_5 _ _ _, _, .inl ⟨_, SqL.of hl1, rfl⟩, ?_⟩
    have htr := c1.qA.tr
    revert k1 hl1 htr
    show Q (optV (nextS st.Qs L')) H1 → H1 A.q = some (.lst (st.us.map V.ref)) → TriI H1 st.us st.Qs → _
    intro k1 hl1 htr
    cases hQ : st.Qs with
    | nil =>
      have eu : st.us = [] := List.length_eq_zero_iff.mp (by rw [htr.1, hQ]; rfl)
      show if (!(st.us.map V.ref).isEmpty) = true then _ else _
      rw [eu]
      refine iteF (iteF ⟨_, rfl, ?_⟩)
      rw [hQ] at k1
      exact k1
    | cons y r =>
      obtain ⟨t0, e1, e2⟩ := htr.2 0 y (by rw [hQ]; rfl)
      have eu : (!(st.us.map V.ref).isEmpty) = true := by
        cases z : st.us with
        | nil => rw [z] at e1; cases e1
        | cons _ _ => rfl
      show if (!(st.us.map V.ref).isEmpty) = true then _ else _
      rw [eu]
      refine iteT ?_
      have e0 : (st.us.map V.ref)[0]? = some (.ref t0) := by rw [List.getElem?_map, e1]; rfl
      rw [hQ] at k1
      cases L' with
      | none =>
        refine ⟨_, rfl, rfl, _, rfl, iteT (iteT ?_)⟩
        exact ⟨_, rfl, A.p, CC, dx1, _, _, rfl, hob1, TC.cl, TC.n5, crf_5 _ _ _, A.q, _, _, _, rfl, rfl, SqL.of hl1, atI_nat (j := 0) e0, t0, _, _, _, rfl, rfl, SqT.of e2, atI_nat (j := 0) rfl, k1⟩
      | some l =>
        refine ⟨_, rfl, rfl, _, rfl, iteF ?_⟩
        refine ⟨_, rfl, A.p, CC, dx1, _, _, rfl, hob1, TC.cl, TC.n5, crf_5 _ _ _, A.q, _, _, _, rfl, rfl, SqL.of hl1, atI_nat (j := 0) e0, t0, _, _, _, rfl, rfl, SqT.of e2, atI_nat (j := 0) rfl, _, rfl, _, _, rfl, rfl, _, rfl, ?_⟩
        have k1 : Q (optV (if y.1 < l then some y.1 else some l)) H1 := k1
        by_cases hlt : y.1 < l
        · rw [if_pos hlt] at k1
          refine iteTb (decide_eq_true hlt) ?_
          exact ⟨_, rfl, A.p, CC, dx1, _, _, rfl, hob1, TC.cl, TC.n5, crf_5 _ _ _, A.q, _, _, _, rfl, rfl, SqL.of hl1, atI_nat (j := 0) e0, t0, _, _, _, rfl, rfl, SqT.of e2, atI_nat (j := 0) rfl, k1⟩
        · rw [if_neg hlt] at k1
          exact iteFb (decide_eq_false hlt) ⟨_, rfl, k1⟩
end
end RS
namespace RS
open PySem L2
section
variable {P : Program} {w : World} {K : PySem.W.Frag} {mg : Str → Option Value} {base : Heap}
/-! ### check_slot, accepted -/
def spCkSA : Sp := fun vs H Q _ => ∃ i : Int, vs = [.int i] ∧ Q .non H
theorem scCkSA : FnScope ["slot"] ["slot"] (defScope s_check_slot) := ⟨rfl, rfl, rfl, by decide +kernel, rfl, by decide +kernel, by decide +kernel⟩
theorem ok_ckSA {f C fI : Addr} {fd fdI : FuncData} (F : Fun K "check_slot" "check_slot" s_check_slot f fd) (T : Txt K mg C) (GI : FnOk P w K mg base CX0 1 fI fdI ["value"] spIsInt) (bI : Binds K fdI ["value"] []) (mI : mg "is_integer" = some (.ref fI)) (kI : PySem.W.keepIn K (.ref fI) = true) : FnOk P w K mg base CX0 2 f fd ["slot"] spCkSA := by
  refine F.ok scCkSA (fun vs H Q E h => ?_) (fun cdv A outer s H vs Q E hr h => ?_)
  · obtain ⟨i, rfl, _⟩ := h
    rfl
  · obtain ⟨i, rfl, k⟩ := h
    refine ⟨_, (pss_one (ps_if (pt_not (pt_val (pe_call GI hr rfl mI kI bI .nil pass0 (pa_cons (pv 0) pa_nil)))) (pss_one ps_never) pss_nil)), ?_⟩
    exact ⟨_, rfl, i, rfl, true, rfl, iteF k⟩
end
end RS
namespace RS
open PySem L2
/-- the window that holds a slot -/
def outV : Nat → List (Int × Int) → Int → V
  | _, [], _ => .non
  | i, (f, e) :: r, x => if f ≤ x ∧ x < e then .int (i : Nat) else outV (i + 1) r x
theorem outV_hit {x : Int} : ∀ {ws : List (Int × Int)} {i j : Nat} {f e : Int}, ws[j]? = some (f, e) → f ≤ x ∧ x < e → (∀ (m : Nat) (f e : Int), m < j → ws[m]? = some (f, e) → ¬ (f ≤ x ∧ x < e)) → outV i ws x = .int ((i + j : Nat) : Int)
  | [], _, _, _, _, h, _, _ => by simp at h
  | (f0, e0) :: r, i, j, f, e, h, hx, hm => by
    cases j with
    | zero =>
      have h : some (f0, e0) = some (f, e) := h
      cases h
      exact if_pos hx
    | succ j =>
      have h0 := hm 0 f0 e0 (by omega) rfl
      show (if f0 ≤ x ∧ x < e0 then V.int (i : Nat) else outV (i + 1) r x) = _
      rw [if_neg h0, outV_hit (ws := r) (j := j) (by simpa using h) hx (fun m f e h1 h2 => hm (m + 1) f e (by omega) (by simpa using h2)), show i + 1 + j = i + (j + 1) by omega]
theorem outV_miss {x : Int} : ∀ {ws : List (Int × Int)} {i : Nat}, (∀ (m : Nat) (f e : Int), ws[m]? = some (f, e) → ¬ (f ≤ x ∧ x < e)) → outV i ws x = .non
  | [], _, _ => rfl
  | (f0, e0) :: r, i, hm => by
    show (if f0 ≤ x ∧ x < e0 then V.int (i : Nat) else outV (i + 1) r x) = _
    rw [if_neg (hm 0 f0 e0 rfl), outV_miss (fun m f e h => hm (m + 1) f e (by simpa using h))]
end RS
namespace RS
open PySem L2
section
variable {P : Program} {w : World} {K : PySem.W.Frag} {mg : Str → Option Value} {base : Heap}
/-! ### Scene.outage_at, accepted -/
def spOutA (C CS : Addr) : Sp := fun vs H Q _ => ∃ (a p r g t o s wl : Addr) (gs : List Int) (tl : Tl) (bs : List Int) (rs : List V) (ws : List (Int × Int)) (n : Int) (i : Int), vs = [.ref p, .int i] ∧ SceneAt C CS a H p r g t o s wl gs tl bs rs ws n ∧ ∀ H', Same H H' → Q (outV 0 ws i) H'
theorem scOut : FnScope ["self", "slot", "at", "first", "after"] ["self", "slot"] (defScope s_Scene_outage_at) := ⟨rfl, rfl, rfl, by decide +kernel, rfl, by decide +kernel, by decide +kernel⟩
theorem ok_outA {f C CS fS : Addr} {fd fdS : FuncData} (F : Fun K "outage_at" "Scene.outage_at" s_Scene_outage_at f fd) (T : Txt K mg C) (TS : TxtS K mg CS)
    (GS : FnOk P w K mg base CX0 2 fS fdS ["slot"] spCkSA) (bS : Binds K fdS ["slot"] []) (mS : mg "check_slot" = some (.ref fS)) (kS : PySem.W.keepIn K (.ref fS) = true) : FnOk P w K mg base CX0 3 f fd ["self", "slot"] (spOutA C CS) := by
  refine F.ok scOut (fun vs H Q E h => ?_) (fun cdv A outer s H vs Q E hr h => ?_)
  · obtain ⟨a, p, r, g, t, o, s, wl, gs, tl, bs, rs, ws, n, i, rfl, _⟩ := h
    rfl
  · obtain ⟨a, p, r, g, t, o, sl, wl, gs, tl, bs, rs, ws, n, i, rfl, S, k⟩ := h
    refine ⟨_, (pss_cons (ps_expr (pe_call GS hr rfl mS kS bS .nil pass0 (pa_cons (pv 1) pa_nil))) (pss_cons (ps_for PassesOwn.never rfl (pi_enum (by rfl) TS.enum (pa_cons (pe_fld (pv 0) rfl) pa_nil)) (pg_tup rfl (pgs_cons (pg_name (i := 2) scOut.nd rfl (Or.inl rfl)) (pgs_cons (pg_tup rfl (pgs_cons (pg_name (i := 3) scOut.nd rfl (Or.inl rfl)) (pgs_cons (pg_name (i := 4) scOut.nd rfl (Or.inl rfl)) pgs_nil))) pgs_nil)))
        (pss_one (ps_if (pt_chain op_le op_lt (pv 3) (pv 1) (pv 4)) (pss_one (ps_ret (pv 2))) pss_nil))) (pss_one (ps_ret pe_non)))), ?_⟩
    refine ⟨_, rfl, i, rfl, ?_⟩
    refine srdN TS S rfl TS.nW (sflds_w _ _ _ _) ⟨wl, _, rfl, SqL.of S.hw, for_it (walk_enum (a := wl) (xs := rs)) (fun m σ H' => (∃ v2 v3 v4, σ = [some (.ref p), some (.int i), v2, v3, v4]) ∧ Same H H' ∧ ∀ j f e, j < m → ws[j]? = some (f, e) → ¬ (f ≤ i ∧ i < e)) ⟨⟨_, _, _, rfl⟩, Same.refl H, fun j f e hj => absurd hj (by omega)⟩ (fun m σ H' _ p => SqL.of (p.2.1 _ _ S.hw)) ?_ ?_⟩
    · rintro m y σ H1 H2 hm ⟨⟨v2, v3, v4, rfl⟩, S1, none'⟩ ⟨T2, x1, y1, rfl, hT, rfl, hx1, hy1⟩
      obtain rfl := Option.some.inj hx1
      obtain ⟨q, f, e, rfl, hwi, nq, hq, hfe⟩ := S.tp.ok S.ok.wo hy1
      have sT := same_new (o := .tup [V.int (m : Nat), .ref q]) hT
      have S2 := S1.trans sT
      have hq2 := S2 _ _ hq
      refine ⟨T2, _, rfl, SqT.of upd_same, rfl, _, _, rfl, _, _, rfl, ⟨q, _, rfl, SqT.of hq2, rfl, _, _, rfl, _, _, rfl, rfl, rfl, ?_⟩⟩
      refine ⟨_, rfl, _, rfl, _, _, rfl, rfl, _, rfl, ?_⟩
      by_cases h1 : f ≤ i
      · refine iteTb (decide_eq_true h1) ⟨_, rfl, _, _, rfl, rfl, _, rfl, ?_⟩
        by_cases h2 : i < e
        · refine iteTb (decide_eq_true h2) ⟨_, rfl, ?_⟩
          have e2 : outV 0 ws i = .int ((0 + m : Nat) : Int) := outV_hit hwi ⟨h1, h2⟩ (fun j f e h => none' j f e h)
          have k2 := k _ S2
          rw [e2, Nat.zero_add] at k2
          exact k2
        · refine iteFb (decide_eq_false h2) ⟨⟨_, _, _, rfl⟩, S2, fun j f' e' hj hw => ?_⟩
          by_cases hjm : j = m
          · subst hjm
            rw [hwi] at hw
            cases hw
            exact fun z => h2 z.2
          · exact none' j f' e' (by omega) hw
      · refine iteFb (decide_eq_false h1) ⟨_, rfl, iteF ⟨⟨_, _, _, rfl⟩, S2, fun j f' e' hj hw => ?_⟩⟩
        by_cases hjm : j = m
        · subst hjm
          rw [hwi] at hw
          cases hw
          exact fun z => h1 z.1
        · exact none' j f' e' (by omega) hw
    · rintro σ H1 ⟨⟨v2, v3, v4, rfl⟩, S1, none'⟩
      have e2 : outV 0 ws i = .non := outV_miss (fun j f e h => none' j f e (by have := (List.getElem?_eq_some_iff.mp h).1; have := S.tp.len; omega) h)
      have k2 := k _ S1
      rw [e2] at k2
      exact k2
end
end RS
namespace RS
open PySem L2 Hpq
/-! ### Course._decide -/
section
variable {C CS CC CG CLp : Addr} {H H' : Hp} {A : CoA} {D : ScD} {s : CoS} {X : List Addr}
theorem loopX_ob {C : Addr} {H : Hp} {p o d : Addr} {gs : List Int} {tl : Tl} {bs : List Int} {M : List Nat} {ks : List Int} {as : List Addr} {L : Option Int} {ch : Bool} (R : LoopX C H p o d gs tl bs M ks as L ch) :
    (∃ dl Pv Fv Lv, H p = some (.ins C dl (lpf Pv Fv o d Lv ch))) ∧ (∃ kvs, H d = some (.dK kvs)) ∧ ∀ a ∈ as, ∃ xs, H a = some (.lst xs) := by
  cases tl with
  | rep m =>
    have R : LoopAt C H p o d gs m ks as _ L ch := R
    obtain ⟨d1, e1⟩ := R.ob
    refine ⟨⟨_, _, _, _, e1⟩, ⟨_, R.D.hd⟩, fun a ha => ?_⟩
    obtain ⟨r, e⟩ := R.D.some_ ha
    exact ⟨_, e⟩
  | fin =>
    obtain ⟨d1, e1⟩ := R.1.ob
    exact ⟨⟨_, _, _, _, e1⟩, ⟨_, R.1.hd⟩, fun a ha => by rw [R.2.2.1] at ha; cases ha⟩
  | times b =>
    obtain ⟨d1, e1⟩ := R.1.ob
    exact ⟨⟨_, _, _, _, e1⟩, ⟨_, R.1.hd⟩, fun a ha => by rw [R.2.2.1] at ha; cases ha⟩
theorem CoAt.pw (c : CoAt C CS CC CG CLp H A D s X) {dx : Addr} (f : Int) (n : Nat) : CoAt C CS CC CG CLp (upd H A.p (.ins CC dx (crf A f n))) A D { s with free := f, wn := n } X := by
  have nd := c.wrn
  have hT : ∀ x ∈ [A.p], x ∈ X ++ A.wr s.as := fun x hx => by rw [List.mem_singleton.mp hx]; simp [CoA.wr]
  have h : ∀ b u, H b = some u → b ∉ [A.p] → (upd H A.p (.ins CC dx (crf A f n))) b = some u := fun b u e z => by rw [upd_ne (fun y => z (by rw [y]; exact List.mem_singleton.mpr rfl))]; exact e
  have p := c.kp hT h
  unfold CoA.wr at nd
  have nn : ∀ x ∈ A.gl :: A.lp :: A.ld :: A.q :: A.sv :: s.as, x ∉ [A.p] := fun x hx z => (List.nodup_cons.mp nd).1 (by rw [← List.mem_singleton.mp z]; exact hx)
  exact ⟨⟨dx, upd_same⟩, p.scn, p.hst, p.sg (nn _ (by simp)), p.lp (nn _ (by simp)) (nn _ (by simp)) (fun a ha => nn _ (by simp [ha])), ⟨p.qL (nn _ (by simp)), p.qT, c.qA.hp⟩, p.svL (nn _ (by simp)), p.svT,
    c.sep.keep h hT fun x hx => by rw [List.mem_singleton.mp hx]; exact ⟨_, upd_same, fun xs e => by cases e⟩⟩
theorem CoAt.svw (c : CoAt C CS CC CG CLp H A D s X) {t : Addr} {slot : Int} {n : Nat} (ht : H t = some (.tup [.int slot, .int (n : Int)])) : CoAt C CS CC CG CLp (upd H A.sv (.lst (s.vs.map V.ref ++ [.ref t]))) A D { s with S := s.S ++ [(slot, n)], vs := s.vs ++ [t] } X := by
  have nd := c.wrn
  have hT : ∀ x ∈ [A.sv], x ∈ X ++ A.wr s.as := fun x hx => by rw [List.mem_singleton.mp hx]; simp [CoA.wr]
  have h : ∀ b u, H b = some u → b ∉ [A.sv] → (upd H A.sv (.lst (s.vs.map V.ref ++ [.ref t]))) b = some u := fun b u e z => by rw [upd_ne (fun y => z (by rw [y]; exact List.mem_singleton.mpr rfl))]; exact e
  have p := c.kp hT h
  simp only [CoA.wr, List.nodup_cons, List.mem_cons, not_or] at nd
  obtain ⟨⟨_, _, _, _, n1, _⟩, ⟨_, _, _, n2, _⟩, ⟨_, _, n3, _⟩, ⟨_, n4, _⟩, ⟨n5, _⟩, n6, _⟩ := nd
  have nn : ∀ {x}, x ≠ A.sv → x ∉ [A.sv] := fun n z => n (List.mem_singleton.mp z)
  refine ⟨p.ob (nn n1), p.scn, p.hst, p.sg (nn n2), p.lp (nn n3) (nn n4) (fun a ha => nn fun e => n6 (e ▸ ha)), ⟨p.qL (nn n5), p.qT, c.qA.hp⟩, ?_, ?_, c.sep.keep h hT fun x hx => by rw [List.mem_singleton.mp hx]; exact ⟨_, upd_same, fun xs e => by cases e⟩⟩
  · rw [upd_same]
    show _ = some (HO.lst ((s.vs ++ [t]).map V.ref))
    rw [List.map_append]
    rfl
  · show TupsI _ (s.vs ++ [t]) ((s.S ++ [(slot, n)]).map fun p => (p.1, (p.2 : Int)))
    rw [List.map_append]
    exact p.svT.snoc (h _ _ ht (nn fun e => by rw [e, c.svL] at ht; cases ht))
theorem CoAt.lvw (c : CoAt C CS CC CG CLp H A D s X) (G : Grown H H' A.lp A.ld s.as s.as) {M : List Nat} {L : Option Int} {ch : Bool} (R : LoopX CLp H' A.lp A.lo A.ld D.gs D.tl D.bs M s.ks s.as L ch) : CoAt C CS CC CG CLp H' A D { s with M := M, L := L, ch := ch } X := by
  have nd := c.wrn
  have hT : ∀ x ∈ A.lp :: A.ld :: s.as, x ∈ X ++ A.wr s.as := fun x hx => by
    simp only [List.mem_cons] at hx
    rcases hx with rfl | rfl | hx <;> simp [CoA.wr, *]
  have h : ∀ b u, H b = some u → b ∉ A.lp :: A.ld :: s.as → H' b = some u := fun b u e z => by
    simp only [List.mem_cons, not_or] at z
    exact G.fp b u e z.1 z.2.1 z.2.2
  have p := c.kp hT h
  simp only [CoA.wr, List.nodup_cons, List.mem_cons, not_or] at nd
  obtain ⟨⟨a1, a2, a3, a4, a5, a6⟩, ⟨b1, b2, b3, b4, b5⟩, ⟨c1, c2, c3, c4⟩, ⟨d1, d2, d3⟩, ⟨e1, e2⟩, f1, f2⟩ := nd
  have nn : ∀ {x}, x ≠ A.lp → x ≠ A.ld → x ∉ s.as → x ∉ A.lp :: A.ld :: s.as := fun n1 n2 n3 z => by
    simp only [List.mem_cons] at z
    rcases z with z | z | z
    · exact n1 z
    · exact n2 z
    · exact n3 z
  obtain ⟨⟨dl, Pv, Fv, Lv, l1⟩, ⟨kvs, l2⟩, l3⟩ := loopX_ob R
  refine ⟨p.ob (nn a2 a3 a6), p.scn, p.hst, p.sg (nn b1 b2 b5), R, ⟨p.qL (nn (Ne.symm c2) (Ne.symm d1) e2), p.qT, c.qA.hp⟩, p.svL (nn (Ne.symm c3) (Ne.symm d2) f1), p.svT, c.sep.keep h hT fun x hx => ?_⟩
  simp only [List.mem_cons] at hx
  rcases hx with rfl | rfl | hx
  · exact ⟨_, l1, fun xs e => by cases e⟩
  · exact ⟨_, l2, fun xs e => by cases e⟩
  · obtain ⟨xs, e⟩ := l3 x hx
    exact ⟨_, e, fun xs e => by cases e⟩
end
theorem outV_cases (ws : List (Int × Int)) (x : Int) : (outV 0 ws x = .non ∧ ¬ OutA ws x) ∨ ∃ (j : Nat) (w : Int × Int), outV 0 ws x = .int (j : Int) ∧ ws[j]? = some w ∧ w.1 ≤ x ∧ x < w.2 := by
  have key : ∀ (ws : List (Int × Int)) (i : Nat), (outV i ws x = .non ∧ ¬ OutA ws x) ∨ ∃ (j : Nat) (w : Int × Int), outV i ws x = .int ((i + j : Nat) : Int) ∧ ws[j]? = some w ∧ w.1 ≤ x ∧ x < w.2 := by
    intro ws
    induction ws with
    | nil => intro i; exact .inl ⟨rfl, fun ⟨w, h, _⟩ => nomatch h⟩
    | cons p ws ih =>
      intro i
      obtain ⟨f, e⟩ := p
      by_cases h : f ≤ x ∧ x < e
      · exact .inr ⟨0, (f, e), if_pos h, rfl, h.1, h.2⟩
      · have e1 : outV i ((f, e) :: ws) x = outV (i + 1) ws x := if_neg h
        rw [e1]
        rcases ih (i + 1) with ⟨a, b⟩ | ⟨j, w, a, b, d⟩
        · refine .inl ⟨a, fun ⟨w, hw, h1, h2⟩ => ?_⟩
          rcases List.mem_cons.mp hw with rfl | hw
          · exact h ⟨h1, h2⟩
          · exact b ⟨w, hw, h1, h2⟩
        · exact .inr ⟨j + 1, w, by rw [a, show i + 1 + j = i + (j + 1) by omega], b, d⟩
  rcases key ws 0 with h | ⟨j, w, h⟩
  · exact .inl h
  · refine .inr ⟨j, w, ?_⟩
    rw [Nat.zero_add] at h
    exact h
section
variable {P : Program} {w : World} {K : PySem.W.Frag} {mg : Str → Option Value} {base : Heap}
def spDe (C CS CC CG CLp : Addr) : Sp := fun vs H Q _ => ∃ (A : CoA) (D : ScD) (s : CoS) (X : List Addr) (slot : Int) (cl : Addr) (cs : List Nat), vs = [.ref A.p, .int slot, .ref cl] ∧ CoAt C CS CC CG CLp H A D s X ∧ H cl = some (.lst (cs.map nV)) ∧ cl ∉ A.wr s.as ∧ 1 ≤ s.wn ∧ s.M.Nodup ∧ s.vs.length ≤ 1000 ∧
  (slot < s.free → Q .non H) ∧
  (s.free ≤ slot → ∀ w ∈ D.ws, w.1 ≤ slot → slot < w.2 → ∀ H', GrC H H' (A.wr s.as) (A.wr s.as) → CoAt C CS CC CG CLp H' A D { s with free := w.2 } X → Q .non H') ∧
  (s.free ≤ slot → ¬ OutA D.ws slot → cs.length ≠ 1 → ∀ H', GrC H H' (A.wr s.as) (A.wr s.as) → CoAt C CS CC CG CLp H' A D { s with free := slot + 1 } X → Q .non H') ∧
  (s.free ≤ slot → ¬ OutA D.ws slot → ∀ n, cs = [n] → ∀ H' t, GrC H H' (A.wr s.as) (A.wr s.as) → CoAt C CS CC CG CLp H' A D { s with free := slot + D.ln, wn := s.wn - 1, S := s.S ++ [(slot, n)], vs := s.vs ++ [t], M := s.M.filter (· ≠ n), ch := true } X → Q (.int (n : Int)) H')
def deN : List Str := ["self", "slot", "clients", "at", "client"]
theorem scDe : FnScope deN ["self", "slot", "clients"] (defScope s_Course_decide) := ⟨rfl, rfl, rfl, by decide +kernel, rfl, by decide +kernel, by decide +kernel⟩
theorem ok_de {f C CS CC CG CLp fO fU fN fV : Addr} {fd fdO fdU fdN fdV : FuncData} (F : Fun K "_decide" "Course._decide" s_Course_decide f fd) (T : Txt K mg C) (TS : TxtS K mg CS) (TC : TxtC K mg CC) (TP : TxtP K mg CLp)
    (GO : FnOk P w K mg base CX0 3 fO fdO ["self", "slot"] (spOutA C CS)) (bO : Binds K fdO ["self", "slot"] []) (mO : Meth K CS "outage_at" fO) (GU : FnOk P w K mg base CX0 1 fU fdU ["self"] (spOuts C CS)) (bU : Binds K fdU ["self"] []) (mU : Meth K CS "outages" fU)
    (GN : FnOk P w K mg base CX0 1 fN fdN ["self"] (spLng C CS)) (bN : Binds K fdN ["self"] []) (mN : Meth K CS "length" fN) (GV : FnOk P w K mg base CX0 1 fV fdV ["self", "client"] (spLvX CLp)) (bV : Binds K fdV ["self", "client"] []) (mV : Meth K CLp "leave" fV) : FnOk P w K mg base CX0 4 f fd ["self", "slot", "clients"] (spDe C CS CC CG CLp) := by
  refine F.ok scDe (fun vs H Q E h => ?_) (fun cdv A outer s H vs Q E hr h => ?_)
  · obtain ⟨A, D, s, X, slot, cl, cs, rfl, _⟩ := h
    rfl
  · obtain ⟨A, D, st, X, slot, cl, cs, rfl, c, hcl, ncl, hw, hM, hv, k1, k2, k3, k4⟩ := h
    have hr1 := hr.mono (show 1 ≤ 3 by decide)
    refine ⟨_, (pss_cons (ps_if (pt_cmpR op_lt (pv 1) (pe_fld (pv 0) rfl) (nomark _)) (pss_one (ps_ret pe_non)) pss_nil) (pss_cons (ps_set (i := 3) scDe.nd rfl (Or.inl rfl) (pe_meth (pe_fld (pv 0) rfl) TS.cl mO GO hr bO .nil pass0 (pa_cons (pv 1) pa_nil))) (pss_cons (ps_if (pt_cmpR op_notN (pv 3) pe_non (nomark _)) (pss_cons (ps_fld (pv 0) (pe_ix ix_tup (pe_ix ix_list (pe_meth0 (pe_fld (pv 0) rfl) TS.cl mU GU hr1 bU .nil pass0) (pv 3) (fun _ _ => rfl)) pe_int (fun _ _ => rfl)) rfl) (pss_one (ps_ret pe_non))) pss_nil) (pss_cons (ps_if (pt_cmpR op_ne (pe_callB call_len_seq (by rfl) T.len (by decide +kernel) (pa_cons (pv 2) pa_nil)) pe_int (nomark _)) (pss_cons (ps_fld (pv 0) (pe_op op_add (pv 1) pe_int) rfl) (pss_one (ps_ret pe_non))) pss_nil) (pss_cons (ps_set (i := 4) scDe.nd rfl (Or.inl rfl) (pe_ix ix_list (pv 2) pe_int (fun _ _ => rfl))) (pss_cons (ps_fld (pv 0) (pe_op op_add (pv 1) (pe_meth0 (pe_fld (pv 0) rfl) TS.cl mN GN hr1 bN .nil pass0)) rfl) (pss_cons (ps_fld (pv 0) (pe_op op_sub (pe_fld (pv 0) rfl) pe_int) rfl) (pss_cons (ps_expr (pe_bm PySem.F.plainAttrs_list PySem.F.slot_list_append PySem.F.type_list_append mt_append (pe_fld (pv 0) rfl) (pa_cons (pe_tup (pa_cons (pv 1) (pa_cons (pv 4) pa_nil))) pa_nil))) (pss_cons (ps_expr (pe_meth (pe_fld (pv 0) rfl) TP.cl mV GV hr1 bV .nil pass0 (pa_cons (pv 4) pa_nil))) (pss_one (ps_ret (pv 4)))))))))))), ?_⟩
    obtain ⟨dx, hob⟩ := c.ob
    refine ⟨_, rfl, _, rfl, A.p, CC, dx, _, _, rfl, hob, TC.cl, TC.n6, crf_6 _ _ _, _, _, rfl, rfl, _, rfl, ?_⟩
    by_cases hlt : slot < st.free
    · exact iteTb (decide_eq_true hlt) (k1 hlt)
    refine iteFb (decide_eq_false hlt) ?_
    have hle : st.free ≤ slot := by omega
    have sc := c.scene
    obtain ⟨dxs, obs⟩ := sc.ob
    have no : ∀ {m : Str}, ¬ m = "_length" → ¬ m = "_outages" → ¬ m = "_starts" → ¬ m = "_rule" → (sflds A.r A.sl A.wl D.ln).lookup m = none := fun a b d e => sflds_no _ _ _ _ a b d e
    refine ⟨_, rfl, A.p, CC, dx, _, _, rfl, hob, TC.cl, TC.n1, crf_1 _ _ _, A.sc, dxs, _, rfl, obs, no (by decide +kernel) (by decide +kernel) (by decide +kernel) (by decide +kernel), _, rfl, A.p, A.sc, A.r, A.g, A.t, A.o, A.sl, A.wl, D.gs, D.tl, D.bs, _, D.ws, D.ln, slot, rfl, sc, fun H1 S1 => ?_⟩
    have c1 := c.same S1
    obtain ⟨dx1, hob1⟩ := c1.ob
    have sc1 := c1.scene
    obtain ⟨dxs1, obs1⟩ := sc1.ob
    rcases outV_cases D.ws slot with ⟨eo, no_out⟩ | ⟨j, w0, eo, hj, h1, h2⟩
    · rw [eo]
      refine ⟨_, rfl, rfl, _, rfl, iteF ?_⟩
      refine ⟨_, rfl, cl, _, rfl, .inl (SqL.of (S1 _ _ hcl)), ?_⟩
      rw [List.length_map]
      by_cases hlen : cs.length = 1
      · refine ⟨rfl, _, rfl, iteFb (by rw [hlen]; rfl) ?_⟩
        obtain ⟨n, rfl⟩ : ∃ n, cs = [n] := by
          match cs, hlen with
          | [n], _ => exact ⟨n, rfl⟩
        refine ⟨_, rfl, cl, _, 0, _, rfl, rfl, SqL.of (S1 _ _ hcl), atI_nat (j := 0) rfl, ?_⟩
        refine ⟨_, rfl, _, rfl, A.p, CC, dx1, _, _, rfl, hob1, TC.cl, TC.n1, crf_1 _ _ _, A.sc, dxs1, _, rfl, obs1, no (by decide +kernel) (by decide +kernel) (by decide +kernel) (by decide +kernel), A.p, A.sc, A.r, A.g, A.t, A.o, A.sl, A.wl, D.gs, D.tl, D.bs, _, D.ws, D.ln, rfl, sc1, _, _, rfl, rfl, ?_⟩
        refine ⟨_, rfl, A.p, CC, dx1, _, rfl, hob1, TC.cl, TC.n6, (by show 8 < 1000; decide), ?_⟩
        rw [crf_sF]
        have c2 := c1.pw (dx := dx1) (slot + D.ln) st.wn
        have hob2 : (upd H1 A.p (.ins CC dx1 (crf A (slot + D.ln) st.wn))) A.p = some (.ins CC dx1 (crf A (slot + D.ln) st.wn)) := upd_same
        have g2 : GrC H (upd H1 A.p (.ins CC dx1 (crf A (slot + D.ln) st.wn))) (A.wr st.as) (A.wr st.as) := (GrC.same S1).trans (GrC.kx Kx.upd (by simp [CoA.wr]))
        generalize upd H1 A.p (.ins CC dx1 (crf A (slot + D.ln) st.wn)) = H2 at c2 hob2 g2
        refine ⟨_, rfl, A.p, CC, dx1, _, _, rfl, hob2, TC.cl, TC.n7, crf_7 _ _ _, _, _, rfl, rfl, ?_⟩
        refine ⟨_, rfl, A.p, CC, dx1, _, rfl, hob2, TC.cl, TC.n7, (by show 8 < 1000; decide), ?_⟩
        have ew : ((st.wn : Int) - 1) = ((st.wn - 1 : Nat) : Int) := by omega
        have eH : upd H2 A.p (.ins CC dx1 (putF "_waiting" (.int ((st.wn : Int) - 1)) (crf A (slot + D.ln) st.wn))) = upd H2 A.p (.ins CC dx1 (crf A (slot + D.ln) (st.wn - 1))) := by rw [ew, crf_sW]
        have c3 := c2.pw (dx := dx1) (slot + D.ln) (st.wn - 1)
        have hob3 : (upd H2 A.p (.ins CC dx1 (crf A (slot + D.ln) (st.wn - 1)))) A.p = some (.ins CC dx1 (crf A (slot + D.ln) (st.wn - 1))) := upd_same
        have g3 : GrC H (upd H2 A.p (.ins CC dx1 (crf A (slot + D.ln) (st.wn - 1)))) (A.wr st.as) (A.wr st.as) := g2.trans (GrC.kx Kx.upd (by simp [CoA.wr]))
        rw [← eH] at c3 hob3 g3
        generalize upd H2 A.p (.ins CC dx1 (putF "_waiting" (.int ((st.wn : Int) - 1)) (crf A (slot + D.ln) st.wn))) = H3 at c3 hob3 g3
        refine ⟨_, rfl, A.p, CC, dx1, _, _, rfl, hob3, TC.cl, TC.n8, crf_8 _ _ _, .inl ⟨rfl, _, SqL.of c3.svL⟩, _, rfl, _, rfl, (by show 2 ≤ sizeLine; decide), fun t ht => ?_⟩
        have S4 := same_new (o := .tup [V.int slot, nV n]) ht
        have c4 := c3.same S4
        have ht4 : (upd H3 t (.tup [V.int slot, nV n])) t = some (.tup [V.int slot, .int (n : Int)]) := upd_same
        have g4 := g3.trans (GrC.same S4)
        have hob4 := S4 _ _ hob3
        generalize upd H3 t (.tup [V.int slot, nV n]) = H4 at c4 ht4 g4 hob4
        refine ⟨A.sv, _, _, rfl, rfl, c4.svL, by rw [List.length_map]; exact Nat.lt_of_le_of_lt (show st.vs.length ≤ 1000 from hv) (by decide), ?_⟩
        have c5 := c4.svw ht4
        have hob5 : (upd H4 A.sv (.lst (st.vs.map V.ref ++ [.ref t]))) A.p = some (.ins CC dx1 (crf A (slot + D.ln) (st.wn - 1))) := by
          rw [upd_ne (fun z => by rw [z, c4.svL] at hob4; cases hob4)]
          exact hob4
        have g5 : GrC H (upd H4 A.sv (.lst (st.vs.map V.ref ++ [.ref t]))) (A.wr st.as) (A.wr st.as) := g4.trans (GrC.kx Kx.upd (by simp [CoA.wr]))
        generalize upd H4 A.sv (.lst (st.vs.map V.ref ++ [.ref t])) = H5 at c5 hob5 g5
        have L5 := c5.lp
        obtain ⟨⟨dl, Pv, Fv, Lv, hlp⟩, _, _⟩ := loopX_ob L5
        refine ⟨_, rfl, A.p, CC, dx1, _, _, rfl, hob5, TC.cl, TC.n4, crf_4 _ _ _, A.lp, dl, _, rfl, hlp, lpf_no _ _ _ _ _ _ (by decide +kernel) (by decide +kernel) (by decide +kernel) (by decide +kernel) (by decide +kernel) (by decide +kernel), _, rfl, A.lp, A.lo, A.ld, D.gs, D.tl, D.bs, st.M, st.ks, st.as, st.L, st.ch, n, rfl, L5, hM, fun H6 G6 L6 => ?_⟩
        refine ⟨_, rfl, k4 hle no_out n rfl H6 t (g5.trans ⟨fun b u e z => G6.fp b u e (fun y => z (by rw [y]; simp [CoA.wr])) (fun y => z (by rw [y]; simp [CoA.wr])) (fun y => z (by simp [CoA.wr, show b ∈ st.as from y])), fun a ha => .inl ha⟩) (c5.lvw G6 L6)⟩
      · refine ⟨rfl, _, rfl, iteTb (by rw [decide_eq_false (fun z => hlen (by have := V.int.inj z; omega))]; rfl) ?_⟩
        refine ⟨_, rfl, _, _, rfl, rfl, _, rfl, A.p, CC, dx1, _, rfl, hob1, TC.cl, TC.n6, (by show 8 < 1000; decide), ?_⟩
        rw [crf_sF]
        exact k3 hle no_out hlen _ ((GrC.same S1).trans (GrC.kx Kx.upd (by simp [CoA.wr]))) (c1.pw (slot + 1) st.wn)
    · rw [eo]
      refine ⟨_, rfl, rfl, _, rfl, iteT ?_⟩
      refine ⟨_, rfl, A.p, CC, dx1, _, _, rfl, hob1, TC.cl, TC.n1, crf_1 _ _ _, A.sc, dxs1, _, rfl, obs1, no (by decide +kernel) (by decide +kernel) (by decide +kernel) (by decide +kernel), A.p, A.sc, A.r, A.g, A.t, A.o, A.sl, A.wl, D.gs, D.tl, D.bs, _, D.ws, D.ln, rfl, sc1, fun l hl => ?_⟩
      have S2 := same_new (o := .lst (A.rs.map V.ref)) hl
      have c2 := c1.same S2
      have hob2 := S2 _ _ hob1
      have hl2 : (upd H1 l (.lst (A.rs.map V.ref))) l = some (.lst (A.rs.map V.ref)) := upd_same
      have S12 := S1.trans S2
      generalize upd H1 l (.lst (A.rs.map V.ref)) = H2 at c2 hob2 hl2 S12
      obtain ⟨r0, e1, e2⟩ := c2.scn.tp.2 j w0 hj
      refine ⟨_, rfl, l, _, _, _, rfl, rfl, SqL.of hl2, atI_nat (j := j) (by rw [List.getElem?_map, e1]; rfl), r0, _, _, _, rfl, rfl, SqT.of e2, atI_nat (j := 1) rfl, ?_⟩
      refine ⟨_, rfl, A.p, CC, dx1, _, rfl, hob2, TC.cl, TC.n6, (by show 8 < 1000; decide), ?_⟩
      rw [crf_sF]
      exact k2 hle w0 (List.mem_of_getElem? hj) h1 h2 _ ((GrC.same S12).trans (GrC.kx Kx.upd (by simp [CoA.wr]))) (c2.pw w0.2 st.wn)
end
end RS
namespace RS
open PySem L2 Hpq
/-! ### the course: its queue, its gaps, its loop written -/
section
variable {C CS CC CG CLp : Addr} {H H' : Hp} {A : CoA} {D : ScD} {s : CoS} {X : List Addr}
theorem CoAt.qw (c : CoAt C CS CC CG CLp H A D s X) {us : List Addr} {ps : List Tri3} (qa : QAt (upd H A.q (.lst (us.map V.ref))) A.q us ps) : CoAt C CS CC CG CLp (upd H A.q (.lst (us.map V.ref))) A D { s with us := us, Qs := ps } X := by
  have nd := c.wrn
  have hT : ∀ x ∈ [A.q], x ∈ X ++ A.wr s.as := fun x hx => by rw [List.mem_singleton.mp hx]; simp [CoA.wr]
  have h : ∀ b u, H b = some u → b ∉ [A.q] → (upd H A.q (.lst (us.map V.ref))) b = some u := fun b u e z => by rw [upd_ne (fun y => z (by rw [y]; exact List.mem_singleton.mpr rfl))]; exact e
  have p := c.kp hT h
  simp only [CoA.wr, List.nodup_cons, List.mem_cons, not_or] at nd
  obtain ⟨⟨a1, a2, a3, a4, a5, a6⟩, ⟨b1, b2, b3, b4, b5⟩, ⟨c1, c2, c3, c4⟩, ⟨d1, d2, d3⟩, ⟨e1, e2⟩, f1, f2⟩ := nd
  have nn : ∀ {x}, x ≠ A.q → x ∉ [A.q] := fun n z => n (List.mem_singleton.mp z)
  exact ⟨p.ob (nn a4), p.scn, p.hst, p.sg (nn b3), p.lp (nn c2) (nn d1) (fun a ha => nn fun e => e2 (e ▸ ha)), qa, p.svL (nn (Ne.symm e1)), p.svT, c.sep.keep h hT fun x hx => by rw [List.mem_singleton.mp hx]; exact ⟨_, upd_same, fun xs e => by cases e⟩⟩
theorem CoAt.glw (c : CoAt C CS CC CG CLp H A D s X) (k : Kx A.gl H H') {j : Nat} (R : SgAt CG H' A.sg A.gl D.gs D.tl j) : CoAt C CS CC CG CLp H' A D { s with j := j } X := by
  have nd := c.wrn
  have hT : ∀ x ∈ [A.gl], x ∈ X ++ A.wr s.as := fun x hx => by rw [List.mem_singleton.mp hx]; simp [CoA.wr]
  have h : ∀ b u, H b = some u → b ∉ [A.gl] → H' b = some u := fun b u e z => k b u (fun y => z (by rw [y]; exact List.mem_singleton.mpr rfl)) e
  have p := c.kp hT h
  simp only [CoA.wr, List.nodup_cons, List.mem_cons, not_or] at nd
  obtain ⟨⟨a1, a2, a3, a4, a5, a6⟩, ⟨b1, b2, b3, b4, b5⟩, ⟨c1, c2, c3, c4⟩, ⟨d1, d2, d3⟩, ⟨e1, e2⟩, f1, f2⟩ := nd
  have nn : ∀ {x}, x ≠ A.gl → x ∉ [A.gl] := fun n z => n (List.mem_singleton.mp z)
  exact ⟨p.ob (nn a1), p.scn, p.hst, R, p.lp (nn (Ne.symm b1)) (nn (Ne.symm b2)) (fun a ha => nn fun e => b5 (e ▸ ha)), ⟨p.qL (nn (Ne.symm b3)), p.qT, c.qA.hp⟩, p.svL (nn (Ne.symm b4)), p.svT, c.sep.keep h hT fun x hx => by rw [List.mem_singleton.mp hx]; exact ⟨_, R.hl, fun xs e => by cases e⟩⟩
theorem CoAt.enw (c : CoAt C CS CC CG CLp H A D s X) {as' : List Addr} (G : Grown H H' A.lp A.ld s.as as') {M : List Nat} {ks : List Int} {L : Option Int} {ch : Bool} (R : LoopX CLp H' A.lp A.lo A.ld D.gs D.tl D.bs M ks as' L ch) (nd' : as'.Nodup) : CoAt C CS CC CG CLp H' A D { s with M := M, ks := ks, as := as', L := L, ch := ch } X := by
  have nd := c.wrn
  have hT : ∀ x ∈ A.lp :: A.ld :: s.as, x ∈ X ++ A.wr s.as := fun x hx => by
    simp only [List.mem_cons] at hx
    rcases hx with rfl | rfl | hx <;> simp [CoA.wr, *]
  have h : ∀ b u, H b = some u → b ∉ A.lp :: A.ld :: s.as → H' b = some u := fun b u e z => by
    simp only [List.mem_cons, not_or] at z
    exact G.fp b u e z.1 z.2.1 z.2.2
  have p := c.kp hT h
  simp only [CoA.wr, List.nodup_cons, List.mem_cons, not_or] at nd
  obtain ⟨⟨a1, a2, a3, a4, a5, a6⟩, ⟨b1, b2, b3, b4, b5⟩, ⟨c1, c2, c3, c4⟩, ⟨d1, d2, d3⟩, ⟨e1, e2⟩, f1, f2⟩ := nd
  have nn : ∀ {x}, x ≠ A.lp → x ≠ A.ld → x ∉ s.as → x ∉ A.lp :: A.ld :: s.as := fun n1 n2 n3 z => by
    simp only [List.mem_cons] at z
    rcases z with z | z | z
    · exact n1 z
    · exact n2 z
    · exact n3 z
  obtain ⟨⟨dl, Pv, Fv, Lv, l1⟩, ⟨kvs, l2⟩, l3⟩ := loopX_ob R
  have eW : ∀ l : List Addr, X ++ A.wr l = (X ++ A.wr []) ++ l := fun l => by rw [List.append_assoc]; rfl
  have S0 := c.sep
  rw [eW] at S0
  obtain ⟨y1, y2, y3⟩ := List.nodup_append.mp S0.nd
  have sm : ∀ x ∈ (X ++ A.wr []) ++ s.as, H x ≠ none := fun x hx z => by
    obtain ⟨u, e, _⟩ := S0.nt x hx
    rw [e] at z
    cases z
  refine ⟨p.ob (nn a2 a3 a6), p.scn, p.hst, p.sg (nn b1 b2 b5), R, ⟨p.qL (nn (Ne.symm c2) (Ne.symm d1) e2), p.qT, c.qA.hp⟩, p.svL (nn (Ne.symm c3) (Ne.symm d2) f1), p.svT, ?_⟩
  show CoSep H' (X ++ A.wr as') A.ro
  rw [eW]
  refine ⟨List.nodup_append.mpr ⟨y1, nd', fun x hx y hy e => ?_⟩, fun x hx hr => ?_, fun x hx => ?_, fun x hx => ?_⟩
  · subst e
    rcases G.nw x hy with z | z
    · exact y3 x hx x z rfl
    · exact sm x (List.mem_append.mpr (.inl hx)) z
  · rcases List.mem_append.mp hx with hx | hx
    · exact S0.ap x (List.mem_append.mpr (.inl hx)) hr
    · rcases G.nw x hx with z | z
      · exact S0.ap x (List.mem_append.mpr (.inr z)) hr
      · obtain ⟨u, e⟩ := S0.ro x hr
        rw [e] at z
        cases z
  · rcases List.mem_append.mp hx with hx | hx
    · by_cases e1' : x = A.lp
      · rw [e1']
        exact ⟨_, l1, fun xs e => by cases e⟩
      · by_cases e2' : x = A.ld
        · rw [e2']
          exact ⟨_, l2, fun xs e => by cases e⟩
        · obtain ⟨u, e, n⟩ := S0.nt x (List.mem_append.mpr (.inl hx))
          exact ⟨u, h x u e (nn e1' e2' fun z => y3 x hx x z rfl), n⟩
    · obtain ⟨xs, e⟩ := l3 x hx
      exact ⟨_, e, fun xs e => by cases e⟩
  · obtain ⟨u, e⟩ := S0.ro x hx
    exact ⟨u, h x u e fun z => c.sep.ap x (hT x z) hx⟩
theorem GrC.side {H H1 H2 : Hp} {W W1 : List Addr} {a : Addr} (G : GrC H H1 W W1) (k : Kx a H1 H2) (h : H a = none) : GrC H H2 W W1 :=
  ⟨fun c u e n => k c u (ne_of_none e h) (G.fp c u e n), G.nw⟩
end
end RS
namespace RS
open PySem L2 Hpq
/-! ### Course._pass_slot -/
/-- what is left to do -/
def meas (K : Nat) (D : ScD) (s : CoS) : Nat := mu K s.Qs + (unS D.bs s.S).length + winL D.ws s.free
/-- the course in front of a slot -/
structure CoRun (D : ScD) (K : Nat) (s : CoS) (F : Int) : Prop where
  inv : CoInv D.gs D.tl D.bs D.ws D.ln s.S s.free s.Qs s.M F
  wn : s.wn = (unS D.bs s.S).length
  fr : F ≤ s.free
  ks : s.ks.length ≤ 20 * (s.M.length + s.S.length)
  j : s.j ≤ max D.gs.length (K + 1)
def serV : Option Nat → V
  | none => .non
  | some c => .int (c : Int)
/-- a client and its attempt -/
def prQ (x : Tri3) : Int × Int := (x.2.1, x.2.2)
/-- while the attempts of the slot are taken -/
structure PsW (C CS CC CG CLp : Addr) (H H' : Hp) (A : CoA) (D : ScD) (st : CoS) (X : List Addr) (slot : Int) (due : Addr) (P R : List Tri3) (us ds : List Addr) (ks : List Int) (as : List Addr) (ch : Bool) : Prop where
  pm : st.Qs.Perm (P ++ R)
  hP : ∀ x ∈ P, x.1 = slot
  co : CoAt C CS CC CG CLp H' A D { st with Qs := R, us := us, M := st.M ++ (entQ D.gs D.tl P).map cl, ks := ks, as := as, ch := ch } (due :: X)
  hd : H' due = some (.lst (ds.map V.ref))
  td : TupsI H' ds ((dueQ D.gs D.tl P).map prQ)
  gr : GrC H H' (A.wr st.as) (A.wr as)
  kl : ks.length ≤ st.ks.length + 20 * (entQ D.gs D.tl P).length
  cc : ch = false → st.ch = false ∧ entQ D.gs D.tl P = []
/-- the slot is decided -/
structure PsD (C CS CC CG CLp : Addr) (H H' : Hp) (A : CoA) (D : ScD) (st : CoS) (X : List Addr) (slot : Int) (K : Nat) (due : Addr) (P : List Tri3) (ds : List Addr) (s2 : CoS) (served : Option Nat) : Prop where
  co : CoAt C CS CC CG CLp H' A D s2 (due :: X)
  hd : H' due = some (.lst (ds.map V.ref))
  td : TupsI H' ds ((dueQ D.gs D.tl P).map prQ)
  gr : GrC H H' (A.wr st.as) (A.wr s2.as)
  inv : CoInv D.gs D.tl D.bs D.ws D.ln s2.S s2.free (s2.Qs ++ (dueQ D.gs D.tl P).filterMap (nextQ D.gs D.tl served)) s2.M (slot + 1)
  wn : s2.wn = (unS D.bs s2.S).length
  fr : slot + 1 ≤ s2.free
  fm : st.free ≤ s2.free
  ks : s2.ks.length ≤ 20 * (s2.M.length + s2.S.length)
  j : s2.j = st.j
  cc : s2.ch = false → st.ch = false ∧ s2.L = st.L ∧ s2.M = st.M
  ms : mu K (s2.Qs ++ (dueQ D.gs D.tl P).filterMap (nextQ D.gs D.tl served)) + (unS D.bs s2.S).length + winL D.ws s2.free < meas K D st
  pq : ∀ x ∈ dueQ D.gs D.tl P, ∃ c k : Nat, x = (slot, (c : Int), (k : Int)) ∧ (∀ m, D.tl = .rep m → k < D.gs.length - m) ∧ (D.tl = .fin → k ≤ D.gs.length) ∧ k ≤ K
theorem ps_mu {gs : List Int} {tl : Tl} {K : Nat} {Qs P R : List Tri3} (pm : Qs.Perm (P ++ R)) (hk : ∀ x ∈ P, 0 ≤ x.2.2 ∧ x.2.2.toNat ≤ K) (served : Option Nat) : mu K (R ++ (dueQ gs tl P).filterMap (nextQ gs tl served)) + P.length ≤ mu K Qs := by
  rw [mu_perm pm, mu_app, mu_app]
  have := mu_next gs tl served hk
  omega
theorem dueQ_snoc (gs : List Int) (tl : Tl) (P : List Tri3) (x : Tri3) : dueQ gs tl (P ++ [x]) = dueQ gs tl P ++ (if beg gs tl x.2.2 then [] else [x]) := by
  unfold dueQ
  rw [List.filter_append, List.filter_cons]
  cases beg gs tl x.2.2 <;> rfl
theorem entQ_snoc (gs : List Int) (tl : Tl) (P : List Tri3) (x : Tri3) : entQ gs tl (P ++ [x]) = entQ gs tl P ++ (if beg gs tl x.2.2 then [x] else []) := by
  unfold entQ
  rw [List.filter_append, List.filter_cons]
  cases beg gs tl x.2.2 <;> rfl
section
variable {P : Program} {w : World} {K : PySem.W.Frag} {mg : Str → Option Value} {base : Heap}
def spPs (C CS CC CG CLp : Addr) : Sp := fun vs H Q _ => ∃ (A : CoA) (D : ScD) (s : CoS) (X : List Addr) (slot : Int) (K : Nat), vs = [.ref A.p, .int slot] ∧ CoAt C CS CC CG CLp H A D s X ∧ CoInv D.gs D.tl D.bs D.ws D.ln s.S s.free s.Qs s.M slot ∧ s.wn = (unS D.bs s.S).length ∧ 1 ≤ s.wn ∧ s.ks.length ≤ 20 * (s.M.length + s.S.length) ∧ s.j ≤ max D.gs.length (K + 1) ∧ K ≤ 2000 ∧
  (∀ x ∈ s.Qs, x.1 = slot → 0 ≤ x.2.2 ∧ x.2.2.toNat ≤ K) ∧ ((∃ x ∈ s.Qs, x.1 = slot) ∨ s.free ≤ slot ∧ (hereL D.gs D.tl D.bs s.M slot).length = 1) ∧
  ∀ s' H', GrC H H' (A.wr s.as) (A.wr s'.as) → CoAt C CS CC CG CLp H' A D s' X → CoRun D K s' (slot + 1) → (s'.ch = false → s.ch = false ∧ s'.L = s.L ∧ s'.M = s.M) → s.free ≤ s'.free → meas K D s' < meas K D s → Q .non H'
def psN : List Str := ["self", "slot", "due", "_", "client", "attempt", "served", "gap"]
theorem scPs : FnScope psN ["self", "slot"] (defScope s_Course_pass_slot) := ⟨rfl, rfl, rfl, by decide +kernel, rfl, by decide +kernel, by decide +kernel⟩
theorem ok_ps {f C CS CC CG CLp fB fE fD fI fH : Addr} {fd fdB fdE fdD fdI fdH : FuncData} (F : Fun K "_pass_slot" "Course._pass_slot" s_Course_pass_slot f fd) (T : Txt K mg C) (TC : TxtC K mg CC) (TG : TxtG K mg CG) (TP : TxtP K mg CLp)
    (GB : FnOk P w K mg base CX0 1 fB fdB ["self", "attempt"] (spBg CLp)) (bB : Binds K fdB ["self", "attempt"] []) (mB : Meth K CLp "begins" fB) (GE : FnOk P w K mg base CX0 1 fE fdE ["self", "client", "start"] (spEn CLp)) (bE : Binds K fdE ["self", "client", "start"] []) (mE : Meth K CLp "enter" fE)
    (GD : FnOk P w K mg base CX0 4 fD fdD ["self", "slot", "clients"] (spDe C CS CC CG CLp)) (bD : Binds K fdD ["self", "slot", "clients"] []) (mD : Meth K CC "_decide" fD) (GI : FnOk P w K mg base CX0 1 fI fdI ["self", "slot"] (spCiX CLp)) (bI : Binds K fdI ["self", "slot"] []) (mI : Meth K CLp "clients_in" fI)
    (GH : FnOk P w K mg base CX0 1 fH fdH ["self", "attempt"] (spBe CG)) (bH : Binds K fdH ["self", "attempt"] []) (mH : Meth K CG "behind" fH) : FnOk P w K mg base CX0 5 f fd ["self", "slot"] (spPs C CS CC CG CLp) := by
  refine F.ok scPs (fun vs H Q E h => ?_) (fun cdv A outer s H vs Q E hr h => ?_)
  · obtain ⟨A, D, s, X, slot, n, rfl, _⟩ := h
    rfl
  · obtain ⟨A, D, st, X, slot, n, rfl, c, I, hwn, hw1, hks, hj, hn, hkb, hsome, k⟩ := h
    have hr1 := hr.mono (show 1 ≤ 4 by decide)
    refine ⟨_, (pss_cons (ps_set (i := 2) scPs.nd rfl (Or.inl rfl) (pe_lst pa_nil)) (Evl.pss_cut (ps_while PassesOwn.never (PW.pt (pw_and (pt_truth (pe_fld (pv 0) rfl) (fun _ => rfl)) (pw_and1 (pt_cmpR op_eq (pe_ix ix_tup (pe_ix ix_list (pe_fld (pv 0) rfl) pe_int (fun _ _ => rfl)) pe_int (fun _ _ => rfl)) (pv 1) (nomark _))))) (pss_cons (ps_asg (pe_callG (cr_pop hr.units) rfl TC.pop (pa_cons (pe_fld (pv 0) rfl) pa_nil)) (pg_tup rfl (pgs_cons (pg_name (i := 3) scPs.nd rfl (Or.inl rfl)) (pgs_cons (pg_name (i := 4) scPs.nd rfl (Or.inl rfl)) (pgs_cons (pg_name (i := 5) scPs.nd rfl (Or.inl rfl)) pgs_nil))))) (pss_one (ps_if (pt_val (pe_meth (pe_fld (pv 0) rfl) TP.cl mB GB hr1 bB .nil pass0 (pa_cons (pv 5) pa_nil))) (pss_one (ps_expr (pe_meth (pe_fld (pv 0) rfl) TP.cl mE GE hr1 bE .nil pass0 (pa_cons (pv 4) (pa_cons (pe_ix ix_list (pe_fld (pv 0) rfl) (pv 4) (fun _ _ => rfl)) pa_nil))))) (pss_one (ps_expr (pe_bm PySem.F.plainAttrs_list PySem.F.slot_list_append PySem.F.type_list_append mt_append (pv 2) (pa_cons (pe_tup (pa_cons (pv 4) (pa_cons (pv 5) pa_nil))) pa_nil)))))))) (Evl.pss_cut (ps_set (i := 6) scPs.nd rfl (Or.inl rfl) (pe_meth (pv 0) TC.cl mD GD hr bD .nil pass0 (pa_cons (pv 1) (pa_cons (pe_op op_cat (pe_lc (own := [("client", 4), ("_", 3)]) (g := gTup K 2 (gCons (gName 4) (gCons (gName 3) gNil))) (tt := tYes) rfl scPs.nd (pi_list (pv 2)) (blkOk_by (own := [("client", 4), ("_", 3)]) (N := psN) (sc := defScope s_Course_pass_slot) (by decide +kernel)) (fun _ _ _ _ _ => pg_tup rfl (pgs_cons (pg_name (i := 4) scPs.nd rfl (Or.inl rfl)) (pgs_cons (pg_name (i := 3) scPs.nd rfl (Or.inl rfl)) pgs_nil))) (fun _ _ _ _ _ => pts_nil) (fun _ _ _ _ _ => pv 4)) (pe_meth (pe_fld (pv 0) rfl) TP.cl mI GI hr1 bI .nil pass0 (pa_cons (pv 1) pa_nil))) pa_nil)))) (pss_one (ps_for PassesOwn.never rfl (pi_list (pv 2)) (pg_tup rfl (pgs_cons (pg_name (i := 4) scPs.nd rfl (Or.inl rfl)) (pgs_cons (pg_name (i := 5) scPs.nd rfl (Or.inl rfl)) pgs_nil))) (pss_cons (ps_set (i := 7) scPs.nd rfl (Or.inl rfl) (pe_meth (pe_fld (pv 0) rfl) TG.cl mH GH hr1 bH .nil pass0 (pa_cons (pv 5) pa_nil))) (pss_one (ps_if (PW.pt (pw_and (pt_cmpR op_ne (pv 4) (pv 6) (nomark _)) (pw_and1 (pt_cmpR op_notN (pv 7) pe_non (nomark _))))) (pss_one (ps_expr (pe_callG (cr_push hr.units) rfl TC.push (pa_cons (pe_fld (pv 0) rfl) (pa_cons (pe_tup (pa_cons (pe_op op_add (pv 1) (pv 7)) (pa_cons (pv 4) (pa_cons (pe_op op_add (pv 5) pe_int) pa_nil)))) pa_nil))))) pss_nil)))))))), ?_⟩
    have hb40 := c.scn.ok.b40
    refine ⟨(by show 0 ≤ sizeLine; decide), fun due hdue => ?_⟩
    have c0 := c.aside (u := .lst ([] : List V)) hdue (fun xs e => by cases e)
    have hd0 : (upd H due (.lst ([] : List V))) due = some (.lst []) := upd_same
    have g0 : GrC H (upd H due (.lst ([] : List V))) (A.wr st.as) (A.wr st.as) := GrC.same (same_new hdue)
    generalize upd H due (.lst ([] : List V)) = H0 at c0 hd0 g0
    refine ⟨fun σ H' => ∃ P R us ds ks as ch v3 v4 v5, σ = [some (.ref A.p), some (.int slot), some (.ref due), v3, v4, v5, none, none] ∧ PsW C CS CC CG CLp H H' A D st X slot due P R us ds ks as ch ∧ ∀ x ∈ R, slot < x.1, ?_, ?_⟩
    · refine ⟨fun m σ H' => ∃ P R us ds ks as ch v3 v4 v5, σ = [some (.ref A.p), some (.int slot), some (.ref due), v3, v4, v5, none, none] ∧ m = R.length ∧ PsW C CS CC CG CLp H H' A D st X slot due P R us ds ks as ch, ⟨_, [], st.Qs, st.us, [], st.ks, st.as, st.ch, none, none, none, rfl, rfl, ⟨List.Perm.refl _, (fun x h => nomatch h), ?_, hd0, TupsI.nil, g0, Nat.le_refl _, fun h => ⟨h, rfl⟩⟩⟩, ?_⟩
      · have e : st.M ++ (entQ D.gs D.tl []).map cl = st.M := List.append_nil _
        rw [e]
        exact c0
      rintro m σ H1 ⟨P, R, us, ds, ks, as, ch, v3, v4, v5, rfl, rfl, W⟩
      obtain ⟨dx1, hob1⟩ := W.co.ob
      have hl1 : H1 A.q = some (.lst (us.map V.ref)) := W.co.qA.hl
      have htr : TriI H1 us R := W.co.qA.tr
      refine ⟨_, rfl, A.p, CC, dx1, _, _, rfl, hob1, TC.cl, TC.n5, crf_5 _ _ _, _, .inl ⟨_, SqL.of hl1, rfl⟩, ?_⟩
      cases R with
      | nil =>
        have eu : us = [] := List.length_eq_zero_iff.mp htr.1
        subst eu
        exact iteF (iteF ⟨P, [], [], ds, ks, as, ch, v3, v4, v5, rfl, W, (fun x h => nomatch h)⟩)
      | cons y R0 =>
        obtain ⟨t0, e1, e2⟩ := htr.2 0 y rfl
        have eu : (!(us.map V.ref).isEmpty) = true := by
          cases z : us with
          | nil => rw [z] at e1; cases e1
          | cons _ _ => rfl
        rw [eu]
        refine iteT ?_
        have e0 : (us.map V.ref)[0]? = some (.ref t0) := by rw [List.getElem?_map, e1]; rfl
        refine ⟨_, rfl, A.p, CC, dx1, _, _, rfl, hob1, TC.cl, TC.n5, crf_5 _ _ _, A.q, _, _, _, rfl, rfl, SqL.of hl1, atI_nat (j := 0) e0, t0, _, _, _, rfl, rfl, SqT.of e2, atI_nat (j := 0) rfl, _, rfl, rfl, _, rfl, ?_⟩
        have hyQ : y ∈ st.Qs := W.pm.mem_iff.mpr (List.mem_append.mpr (.inr (List.mem_cons_self ..)))
        obtain ⟨cn, kn, hy, hcn, hfin, hge, hlow, hrep, hnS, hnM⟩ := I.q y hyQ
        have hlow' : ∀ x ∈ y :: R0, y.1 ≤ x.1 := fun x hx => HpL.low (ps := y :: R0) W.co.qA.hp rfl hx
        by_cases hs : y.1 = slot
        · refine iteTb (decide_eq_true (by rw [hs])) ⟨fun σ' H' => ∃ P R us ds ks as ch v3 v4 v5, σ' = [some (.ref A.p), some (.int slot), some (.ref due), v3, v4, v5, none, none] ∧ R.length < R0.length + 1 ∧ PsW C CS CC CG CLp H H' A D st X slot due P R us ds ks as ch, ?_, ?_⟩
          · rintro σ' H' ⟨P', R', us', ds', ks', as', ch', w3, w4, w5, e, hlt, W'⟩
            exact ⟨R'.length, hlt, P', R', us', ds', ks', as', ch', w3, w4, w5, e, rfl, W'⟩
          refine ⟨_, rfl, A.p, CC, dx1, _, _, rfl, hob1, TC.cl, TC.n5, crf_5 _ _ _, A.q, t0, us, y :: R0, y, rfl, W.co.qA, e1, rfl, fun us' R' qa pR pu => ?_⟩
          have c2 := W.co.qw qa
          have pR : R0.Perm R' := List.Perm.cons_inv pR
          have hd2 : (upd H1 A.q (.lst (us'.map V.ref))) due = some (.lst (ds.map V.ref)) := by
            rw [upd_ne (fun z => ?_)]
            · exact W.hd
            · have nd := c2.sep.nd
              rw [List.cons_append, List.nodup_cons] at nd
              exact nd.1 (by rw [z]; simp [CoA.wr])
          have tu : ∀ (r : Addr) (xs : List V), H1 r = some (.tup xs) → (upd H1 A.q (.lst (us'.map V.ref))) r = some (.tup xs) := fun r xs e => by
            rw [upd_ne (fun z => by rw [z, hl1] at e; cases e)]
            exact e
          have td2 := W.td.kx tu
          have ht2 := tu _ _ e2
          have g2 : GrC H (upd H1 A.q (.lst (us'.map V.ref))) (A.wr st.as) (A.wr as) := W.gr.trans (GrC.kx Kx.upd (by simp [CoA.wr]))
          generalize upd H1 A.q (.lst (us'.map V.ref)) = H2 at c2 hd2 td2 ht2 g2
          have pm2 : st.Qs.Perm ((P ++ [y]) ++ R') := W.pm.trans (by
            rw [List.append_assoc]
            exact List.Perm.append_left P (List.Perm.cons y pR))
          have hP2 : ∀ x ∈ P ++ [y], x.1 = slot := fun x hx => by
            rcases List.mem_append.mp hx with hx | hx
            · exact W.hP x hx
            · rw [List.mem_singleton.mp hx]
              exact hs
          have lR : R'.length < R0.length + 1 := by rw [← pR.length_eq]; omega
          refine ⟨t0, _, rfl, SqT.of ht2, rfl, _, _, rfl, _, _, rfl, _, _, rfl, rfl, ?_⟩
          obtain ⟨dx2, hob2⟩ := c2.ob
          have L2 := c2.lp
          obtain ⟨⟨dl, Pv, Fv, Lv, hlp⟩, _, _⟩ := loopX_ob L2
          have lno : ∀ {m : Str}, m ≠ "_period" → m ≠ "_first" → m ≠ "_offsets" → m ≠ "_clients" → m ≠ "_lone" → m ≠ "_changed" → (lpf Pv Fv A.lo A.ld Lv ch).lookup m = none := fun a b d e f g => lpf_no _ _ _ _ _ _ a b d e f g
          refine ⟨_, rfl, A.p, CC, dx2, _, _, rfl, hob2, TC.cl, TC.n4, crf_4 _ _ _, A.lp, dl, _, rfl, hlp, lno (by decide +kernel) (by decide +kernel) (by decide +kernel) (by decide +kernel) (by decide +kernel) (by decide +kernel), _, rfl, A.lp, A.lo, A.ld, D.gs, D.tl, D.bs, _, ks, as, st.L, ch, y.2.2, rfl, L2, ?_⟩
          have ey : y.2.1 = (cn : Int) := by rw [hy]
          have ek : y.2.2 = (kn : Int) := by rw [hy]
          cases hb : beg D.gs D.tl y.2.2 with
          | true =>
            refine ⟨_, rfl, iteT ?_⟩
            obtain ⟨m, hm⟩ : ∃ m, D.tl = .rep m := by
              revert hb
              cases D.tl with
              | rep m => exact fun _ => ⟨m, rfl⟩
              | fin => exact fun h => nomatch h
              | times b => exact fun h => nomatch h
            have L2' : LoopAt CLp H2 A.lp A.lo A.ld D.gs m ks as (hereF (tabOf D.gs m D.bs) (st.M ++ (entQ D.gs D.tl P).map cl)) st.L ch := by
              have := L2
              rw [hm] at this ⊢
              exact this
            have pm3 : st.Qs.Perm (P ++ (y :: R0)) := W.pm
            have nd3 := m1_nodup I pm3
            have len3 : (st.M ++ (entQ D.gs D.tl P).map cl).length ≤ D.bs.length := by
              have := nd_len (m := List.range D.bs.length) nd3 fun x hx => List.mem_range.mpr (ent_in I pm3 W.hP hx).1
              rw [List.length_range] at this
              exact this
            have S3 := co_len c.scn.R.okG c.scn.R.okT I
            have kl := W.kl
            have le3 : (entQ D.gs D.tl P).length ≤ 40 := by rw [List.length_append, List.length_map] at len3; omega
            refine ⟨_, rfl, A.p, CC, dx2, _, _, rfl, hob2, TC.cl, TC.n4, crf_4 _ _ _, A.lp, dl, _, rfl, hlp, lno (by decide +kernel) (by decide +kernel) (by decide +kernel) (by decide +kernel) (by decide +kernel) (by decide +kernel), _, rfl, _, rfl, A.p, CC, dx2, _, _, rfl, hob2, TC.cl, TC.n2, crf_2 _ _ _, _, rfl, A.st, _, _, _, rfl, rfl, SqL.of c2.hst, (by rw [ey]; exact at_map (getD_get hcn)), ?_⟩
            refine ⟨A.lp, A.lo, A.ld, D.gs, m, ks, as, _, st.L, ch, cn, D.bs.getD cn 0, congrArg (fun z => [V.ref A.lp, V.int z, V.int (D.bs.getD cn 0)]) ey, L2', fun r => Nat.le_trans (hereF_len _ _ _) (by omega), by omega, fun ks' as' H3 G3 hk3 R3 => ?_⟩
            rw [herF_more hcn] at R3
            have eE : entQ D.gs D.tl (P ++ [y]) = entQ D.gs D.tl P ++ [y] := by rw [entQ_snoc, hb, if_pos rfl]
            have eD : dueQ D.gs D.tl (P ++ [y]) = dueQ D.gs D.tl P := by rw [dueQ_snoc, hb, if_pos rfl, List.append_nil]
            have eM : st.M ++ (entQ D.gs D.tl (P ++ [y])).map cl = (st.M ++ (entQ D.gs D.tl P).map cl) ++ [cn] := by
              rw [eE, List.map_append, List.map_singleton, cl_of ey, List.append_assoc]
            have R3' : LoopX CLp H3 A.lp A.lo A.ld D.gs D.tl D.bs (st.M ++ (entQ D.gs D.tl (P ++ [y])).map cl) ks' as' st.L true := by
              rw [eM, hm]
              rw [hm] at R3
              exact R3
            have c3 := c2.enw G3 R3' R3.D.na
            have dueW : due ≠ A.lp ∧ due ≠ A.ld ∧ due ∉ as := by
              have nd := c2.sep.nd
              rw [List.cons_append, List.nodup_cons] at nd
              refine ⟨fun z => nd.1 (by rw [z]; simp [CoA.wr]), fun z => nd.1 (by rw [z]; simp [CoA.wr]), fun z => nd.1 ?_⟩
              exact List.mem_append.mpr (.inr (by simp only [CoA.wr, List.mem_cons]; exact .inr (.inr (.inr (.inr (.inr (.inr z)))))))
            have tu3 : ∀ (r : Addr) (xs : List V), H2 r = some (.tup xs) → H3 r = some (.tup xs) := fun r xs e => by
              have nW := c2.sep.tup e
              refine G3.fp r _ e (fun z => nW (by rw [z]; simp [CoA.wr])) (fun z => nW (by rw [z]; simp [CoA.wr])) (fun z => nW (List.mem_append.mpr (.inr (by simp only [CoA.wr, List.mem_cons]; exact .inr (.inr (.inr (.inr (.inr (.inr z)))))))))
            refine ⟨P ++ [y], R', us', ds, ks', as', true, _, _, _, rfl, lR, ⟨pm2, hP2, c3, G3.fp _ _ hd2 dueW.1 dueW.2.1 dueW.2.2, by rw [eD]; exact td2.kx tu3, g2.trans ⟨fun b u e z => G3.fp b u e (fun y => z (by rw [y]; simp [CoA.wr])) (fun y => z (by rw [y]; simp [CoA.wr])) (fun y => z (by simp only [CoA.wr, List.mem_cons]; exact .inr (.inr (.inr (.inr (.inr (.inr y)))))) ), fun a ha => ?_⟩, by rw [eE, List.length_append]; show _ ≤ _ + 20 * (_ + 1); omega, fun h => nomatch h⟩⟩
            simp only [CoA.wr, List.mem_cons] at ha ⊢
            rcases ha with h | h | h | h | h | h | h
            · exact .inl (.inl h)
            · exact .inl (.inr (.inl h))
            · exact .inl (.inr (.inr (.inl h)))
            · exact .inl (.inr (.inr (.inr (.inl h))))
            · exact .inl (.inr (.inr (.inr (.inr (.inl h)))))
            · exact .inl (.inr (.inr (.inr (.inr (.inr (.inl h))))))
            · rcases G3.nw a h with z | z
              · exact .inl (.inr (.inr (.inr (.inr (.inr (.inr z))))))
              · exact .inr z
          | false =>
            refine ⟨_, rfl, iteF ?_⟩
            refine ⟨_, rfl, .inl ⟨rfl, _, SqL.of hd2⟩, _, rfl, _, rfl, (by show 2 ≤ sizeLine; decide), fun t ht => ?_⟩
            have S3 := same_new (o := .tup [V.int y.2.1, V.int y.2.2]) ht
            have c3 := c2.same S3
            have td3 := (td2.same S3).snoc (upd_same (H := H2) (a := t) (o := .tup [V.int y.2.1, V.int y.2.2]))
            have hd3 := S3 _ _ hd2
            have g3 := g2.trans (GrC.same S3)
            generalize upd H2 t (.tup [V.int y.2.1, V.int y.2.2]) = H3 at c3 td3 hd3 g3
            have lds : ds.length ≤ 40 := by
              have e1 := W.td.1
              rw [List.length_map] at e1
              have e2 : (dueQ D.gs D.tl P).length ≤ P.length := List.length_filter_le ..
              have e3 := (co_len c.scn.R.okG c.scn.R.okT I).1
              have e4 := W.pm.length_eq
              rw [List.length_append] at e4
              omega
            have eE : entQ D.gs D.tl (P ++ [y]) = entQ D.gs D.tl P := by rw [entQ_snoc, hb, if_neg (by decide), List.append_nil]
            have eD : dueQ D.gs D.tl (P ++ [y]) = dueQ D.gs D.tl P ++ [y] := by rw [dueQ_snoc, hb, if_neg (by decide)]
            refine ⟨due, _, _, rfl, rfl, hd3, by rw [List.length_map]; exact Nat.lt_of_le_of_lt (show ds.length ≤ 1000 by omega) (by decide), ?_⟩
            have c4 := c3.side (H' := upd H3 due (.lst (ds.map V.ref ++ [V.ref t]))) (List.mem_cons_self ..) Kx.upd ⟨_, upd_same, fun xs e => by cases e⟩
            refine ⟨P ++ [y], R', us', ds ++ [t], ks, as, ch, _, _, _, rfl, lR, ⟨pm2, hP2, by rw [eE]; exact c4, by rw [upd_same, List.map_append]; rfl, ?_, g3.side Kx.upd hdue, by rw [eE]; exact W.kl, by rw [eE]; exact W.cc⟩⟩
            rw [eD, List.map_append]
            exact td3.kx fun r xs e => by rw [upd_ne (fun z => by rw [z, hd3] at e; cases e)]; exact e
        · refine iteFb (decide_eq_false (fun z => hs (V.int.inj z))) ⟨P, y :: R0, us, ds, ks, as, ch, v3, v4, v5, rfl, W, fun x hx => ?_⟩
          have := hlow' x hx
          have : slot ≤ y.1 := by rw [hy]; exact hge
          omega
    rintro _ H1 ⟨P, R, us, ds, ks, as, ch, v3, v4, v5, rfl, W, hR⟩
    obtain ⟨dx1, hob1⟩ := W.co.ob
    have okG := c.scn.R.okG
    have okT := c.scn.R.okT
    have pQ : ∀ x ∈ P, x ∈ st.Qs := fun x hx => W.pm.mem_iff.mpr (List.mem_append.mpr (.inl hx))
    have hkP : ∀ x ∈ P, 0 ≤ x.2.2 ∧ x.2.2.toNat ≤ n := fun x hx => hkb x (pQ x hx) (W.hP x hx)
    have pq : ∀ x ∈ dueQ D.gs D.tl P, ∃ c k : Nat, x = (slot, (c : Int), (k : Int)) ∧ (∀ m, D.tl = .rep m → k < D.gs.length - m) ∧ (D.tl = .fin → k ≤ D.gs.length) ∧ k ≤ n := fun x hx => by
      obtain ⟨hxP, hxb⟩ := List.mem_filter.mp hx
      have hs := W.hP x hxP
      have hk := hkP x hxP
      obtain ⟨c', k', rfl, h1, h2, h3, h4, h5, h6, h7⟩ := I.q x (pQ x hxP)
      refine ⟨c', k', Prod.ext hs rfl, fun m hm => ?_, h2, by have : (k' : Int).toNat ≤ n := hk.2; rwa [Int.toNat_natCast] at this⟩
      have h5 := h5 m hm
      rw [hm] at hxb
      have hb : beg D.gs (.rep m) (k' : Int) = false := by simpa using hxb
      have : ¬ ((k' : Int) = ((D.gs.length - m : Nat) : Int)) := of_decide_eq_false hb
      omega
    have ldue : (dueQ D.gs D.tl P).length ≤ 40 := by
      have e2 : (dueQ D.gs D.tl P).length ≤ P.length := List.length_filter_le ..
      have e3 := (co_len okG okT I).1
      have e4 := W.pm.length_eq
      rw [List.length_append] at e4
      omega
    refine ⟨fun σ H' => ∃ s2 served v3 v4 v5, σ = [some (.ref A.p), some (.int slot), some (.ref due), v3, v4, v5, some (serV served), none] ∧ PsD C CS CC CG CLp H H' A D st X slot n due P ds s2 served, ?_, ?_⟩
    · refine ⟨_, rfl, A.p, dx1, _, rfl, hob1, crf_no _ _ _ (by decide +kernel) (by decide +kernel) (by decide +kernel) (by decide +kernel) (by decide +kernel) (by decide +kernel) (by decide +kernel) (by decide +kernel), _, rfl, ?_⟩
      refine ⟨_, rfl, due, rfl, ⟨_, SqL.of W.hd⟩, fun Dl hDl => lc_list (a := due) (xs := ds.map V.ref) (fun i H' => Same H1 H' ∧ H' Dl = some (.lst ((((dueQ D.gs D.tl P).take i).map cl).map nV))) ⟨same_new hDl, upd_same⟩ (fun i H' _ z => SqL.of (z.1 _ _ W.hd)) (fun i x H2 hx z => ?_) (fun H2 z => ?_)⟩
      · obtain ⟨S2, hD2⟩ := z
        obtain ⟨r, pr, rfl, hp, hr'⟩ := W.td.get hx
        rw [List.getElem?_map] at hp
        cases hpx : (dueQ D.gs D.tl P)[i]? with
        | none => rw [hpx] at hp; cases hp
        | some x0 =>
          rw [hpx] at hp
          cases hp
          have hil := (List.getElem?_eq_some_iff.mp hpx).1
          obtain ⟨c', k', ex, _⟩ := pq x0 (List.mem_of_getElem? hpx)
          refine ⟨r, _, rfl, SqT.of (S2 _ _ hr'), rfl, _, _, rfl, _, _, rfl, rfl, rfl, ?_⟩
          refine yes_t (iteT ⟨_, rfl, _, hD2, ?_, same_app hDl S2, ?_⟩)
          · rw [List.length_map, List.length_map, List.length_take]
            exact Nat.lt_of_le_of_lt (show _ ≤ 1000 by omega) (by decide)
          · rw [upd_same, List.take_add_one, hpx, List.map_append, List.map_append]
            have e0 : (prQ x0).1 = ((cl x0 : Nat) : Int) := by rw [ex, cl_of rfl]; rfl
            rw [e0]
            rfl
      obtain ⟨S2, hD2⟩ := z
      have lds : ds.length = (dueQ D.gs D.tl P).length := by rw [W.td.1, List.length_map]
      rw [List.length_map, lds, List.take_length] at hD2
      have c2 := W.co.same S2
      obtain ⟨dx2, hob2⟩ := c2.ob
      have L2 := c2.lp
      obtain ⟨⟨dl, Pv, Fv, Lv, hlp⟩, _, _⟩ := loopX_ob L2
      refine ⟨_, rfl, A.p, CC, dx2, _, _, rfl, hob2, TC.cl, TC.n4, crf_4 _ _ _, A.lp, dl, _, rfl, hlp, lpf_no _ _ _ _ _ _ (by decide +kernel) (by decide +kernel) (by decide +kernel) (by decide +kernel) (by decide +kernel) (by decide +kernel), _, rfl, A.lp, A.lo, A.ld, D.gs, D.tl, D.bs, _, ks, as, st.L, ch, slot, rfl, L2, fun q H3 hq S3 hq3 => ?_⟩
      have nd1 := m1_nodup I W.pm
      have ndS := slot_nodup I W.pm
      have lenS : (slotCl D.gs D.tl D.bs slot P st.M).length ≤ 40 := by
        have := nd_len (m := List.range D.bs.length) ndS fun x hx => List.mem_range.mpr ((slot_mem okG okT I W.pm W.hP hR).mp hx).1
        rw [List.length_range] at this
        omega
      have lenS' : ((dueQ D.gs D.tl P).map cl).length + (hereL D.gs D.tl D.bs (st.M ++ (entQ D.gs D.tl P).map cl) slot).length ≤ 40 := by
        rw [← List.length_append]
        exact lenS
      have hD3 := S3 _ _ hD2
      refine ⟨Dl, q, _, _, rfl, rfl, hD3, hq3, by simp only [List.length_map] at lenS' ⊢; exact Nat.le_of_lt (Nat.lt_of_le_of_lt (show _ ≤ 1000 by omega) (by decide)), fun clL hcl => ?_⟩
      have S4 := same_new (o := .lst (((dueQ D.gs D.tl P).map cl).map nV ++ (hereL D.gs D.tl D.bs (st.M ++ (entQ D.gs D.tl P).map cl) slot).map nV)) hcl
      have hcl4 : (upd H3 clL (.lst (((dueQ D.gs D.tl P).map cl).map nV ++ (hereL D.gs D.tl D.bs (st.M ++ (entQ D.gs D.tl P).map cl) slot).map nV))) clL = some (.lst ((slotCl D.gs D.tl D.bs slot P st.M).map nV)) := by
        rw [upd_same]
        unfold slotCl
        rw [List.map_append]
      have S14 := (S2.trans S3).trans S4
      have c3 := c2.same S3
      have ncl : clL ∉ A.wr as := fun z => by
        obtain ⟨u, e, _⟩ := c3.sep.nt clL (List.mem_append.mpr (.inr z))
        rw [hcl] at e
        cases e
      generalize upd H3 clL (.lst (((dueQ D.gs D.tl P).map cl).map nV ++ (hereL D.gs D.tl D.bs (st.M ++ (entQ D.gs D.tl P).map cl) slot).map nV)) = H4 at S14 hcl4
      have c4 := W.co.same S14
      have lv : st.vs.length ≤ 1000 := by
        have e1 := c.svT.1
        rw [List.length_map] at e1
        have := (co_len okG okT I).2.2
        omega
      have dueN : due ∉ A.wr as := fun z => by
        have nd := W.co.sep.nd
        rw [List.cons_append, List.nodup_cons] at nd
        exact nd.1 (List.mem_append.mpr (.inr z))
      have kl := W.kl
      have lenM : (st.M ++ (entQ D.gs D.tl P).map cl).length = st.M.length + (entQ D.gs D.tl P).length := by rw [List.length_append, List.length_map]
      have dec : ∀ {H5 : Hp}, GrC H4 H5 (A.wr as) (A.wr as) → H5 due = some (.lst (ds.map V.ref)) ∧ TupsI H5 ds ((dueQ D.gs D.tl P).map prQ) ∧ GrC H H5 (A.wr st.as) (A.wr as) := fun g => by
        refine ⟨g.fp _ _ (S14 _ _ W.hd) dueN, (W.td.same S14).kx fun r xs e => g.fp r _ e fun z => c4.sep.tup e (List.mem_append.mpr (.inr z)), (W.gr.trans (GrC.same S14)).trans g⟩
      have some1 : (slot < st.free ∨ (slotCl D.gs D.tl D.bs slot P st.M).length ≠ 1) → 1 ≤ P.length := fun h => by
        cases P with
        | cons _ _ => exact Nat.succ_pos _
        | nil =>
          rcases hsome with ⟨x, hx, e⟩ | ⟨e1, e2⟩
          · have := hR x (W.pm.mem_iff.mp hx)
            omega
          · have e3 : slotCl D.gs D.tl D.bs slot [] st.M = hereL D.gs D.tl D.bs st.M slot := by
              unfold slotCl dueQ entQ
              rw [List.filter_nil, List.filter_nil, List.map_nil, List.append_nil, List.nil_append]
            rw [e3] at h
            rcases h with h | h
            · omega
            · exact absurd e2 h
      have cc' : ch = false → st.ch = false ∧ st.M ++ (entQ D.gs D.tl P).map cl = st.M := fun h => by
        obtain ⟨a1, a2⟩ := W.cc h
        exact ⟨a1, by rw [a2, List.map_nil, List.append_nil]⟩
      refine ⟨A, D, { st with Qs := R, us := us, M := st.M ++ (entQ D.gs D.tl P).map cl, ks := ks, as := as, ch := ch }, due :: X, slot, clL, slotCl D.gs D.tl D.bs slot P st.M, rfl, c4, hcl4, ncl, hw1, nd1, lv, ?_, ?_, ?_, ?_⟩
      · intro hlt
        obtain ⟨d1, d2, d3⟩ := dec GrC.refl
        have m1 := ps_mu (gs := D.gs) (tl := D.tl) W.pm hkP none
        have m2 := some1 (.inl hlt)
        refine ⟨{ st with Qs := R, us := us, M := st.M ++ (entQ D.gs D.tl P).map cl, ks := ks, as := as, ch := ch }, none, v3, v4, v5, rfl, ⟨c4, d1, d2, d3, co_busy okG okT I W.pm W.hP hR hlt, hwn, hlt, Int.le_refl _, ?_, rfl, fun h => ⟨(cc' h).1, rfl, (cc' h).2⟩, ?_, pq⟩⟩
        · show ks.length ≤ 20 * ((st.M ++ (entQ D.gs D.tl P).map cl).length + st.S.length)
          omega
        · show mu n (R ++ _) + (unS D.bs st.S).length + winL D.ws st.free < mu n st.Qs + (unS D.bs st.S).length + winL D.ws st.free
          omega
      · intro hle w0 hw0 h1 h2 H5 g5 c5
        have hle : st.free ≤ slot := hle
        obtain ⟨d1, d2, d3⟩ := dec g5
        have m1 := ps_mu (gs := D.gs) (tl := D.tl) W.pm hkP none
        have m2 : winL D.ws w0.2 < winL D.ws st.free := win_out hw0 hle h2
        refine ⟨_, none, v3, v4, v5, rfl, ⟨c5, d1, d2, d3, co_out okG okT I W.pm W.hP hR hle hw0 h1 h2, hwn, h2, (show st.free ≤ w0.2 by omega), ?_, rfl, fun h => ⟨(cc' h).1, rfl, (cc' h).2⟩, ?_, pq⟩⟩
        · show ks.length ≤ 20 * ((st.M ++ (entQ D.gs D.tl P).map cl).length + st.S.length)
          omega
        · show mu n (R ++ _) + (unS D.bs st.S).length + winL D.ws w0.2 < mu n st.Qs + (unS D.bs st.S).length + winL D.ws st.free
          omega
      · intro hle ho hl H5 g5 c5
        have hle : st.free ≤ slot := hle
        obtain ⟨d1, d2, d3⟩ := dec g5
        have m1 := ps_mu (gs := D.gs) (tl := D.tl) W.pm hkP none
        have m2 := some1 (.inr hl)
        have m3 := win_mono (ws := D.ws) (a := st.free) (b := slot + 1) (by omega)
        refine ⟨_, none, v3, v4, v5, rfl, ⟨c5, d1, d2, d3, co_many okG okT I W.pm W.hP hR hle hl, hwn, Int.le_refl _, (show st.free ≤ slot + 1 by omega), ?_, rfl, fun h => ⟨(cc' h).1, rfl, (cc' h).2⟩, ?_, pq⟩⟩
        · show ks.length ≤ 20 * ((st.M ++ (entQ D.gs D.tl P).map cl).length + st.S.length)
          omega
        · show mu n (R ++ _) + (unS D.bs st.S).length + winL D.ws (slot + 1) < mu n st.Qs + (unS D.bs st.S).length + winL D.ws st.free
          omega
      · intro hle ho cn hl H5 t5 g5 c5
        have hle : st.free ≤ slot := hle
        obtain ⟨d1, d2, d3⟩ := dec g5
        have m1 := ps_mu (gs := D.gs) (tl := D.tl) W.pm hkP (some cn)
        have m3 := win_mono (ws := D.ws) (a := st.free) (b := slot + D.ln) (by have := c.scn.ok.n1; omega)
        obtain ⟨q1, q2, q3, q4⟩ := co_serve okG okT I W.pm W.hP hR hle ho hl rfl
        have m4 := un_serve (s := slot) q2 q1 q3
        have lf : (st.M ++ (entQ D.gs D.tl P).map cl).length ≤ ((st.M ++ (entQ D.gs D.tl P).map cl).filter (· ≠ cn)).length + 1 := by
          have e : (st.M ++ (entQ D.gs D.tl P).map cl).filter (· ≠ cn) = (st.M ++ (entQ D.gs D.tl P).map cl).erase cn := by
            rw [List.Nodup.erase_eq_filter nd1]
            exact List.filter_congr fun x _ => by by_cases h : x = cn <;> simp [h]
          rw [e, List.length_erase]
          split <;> omega
        refine ⟨_, some cn, v3, v4, v5, rfl, ⟨c5, d1, d2, d3, q4, ?_, ?_, (show st.free ≤ slot + D.ln by have := c.scn.ok.n1; omega), ?_, rfl, (fun h => nomatch h), ?_, pq⟩⟩
        · show st.wn - 1 = (unS D.bs (st.S ++ [(slot, cn)])).length
          omega
        · show slot + 1 ≤ slot + D.ln
          have := c.scn.ok.n1
          omega
        · show ks.length ≤ 20 * (((st.M ++ (entQ D.gs D.tl P).map cl).filter (· ≠ cn)).length + (st.S ++ [(slot, cn)]).length)
          rw [List.length_append (as := st.S)]
          show ks.length ≤ 20 * (_ + (_ + 1))
          omega
        · show mu n (R ++ _) + (unS D.bs (st.S ++ [(slot, cn)])).length + winL D.ws (slot + D.ln) < mu n st.Qs + (unS D.bs st.S).length + winL D.ws st.free
          omega
    rintro _ H2 ⟨s2, served, v3, v4, v5, rfl, W2⟩
    have lds : ds.length = (dueQ D.gs D.tl P).length := by rw [W2.td.1, List.length_map]
    have lQ2 := (co_len okG okT W2.inv).1
    rw [List.length_append] at lQ2
    have dueW : ∀ {us' : List Addr} {Qs' : List Tri3} {j' : Nat} {H' : Hp}, CoAt C CS CC CG CLp H' A D { s2 with us := us', Qs := Qs', j := j' } (due :: X) → due ∉ A.wr s2.as := fun c' z => by
      have nd := c'.sep.nd
      rw [List.cons_append, List.nodup_cons] at nd
      exact nd.1 (List.mem_append.mpr (.inr z))
    refine ⟨_, rfl, due, rfl, ⟨_, SqL.of W2.hd⟩, for_list (a := due) (xs := ds.map V.ref) (fun i σ H' => ∃ us' Qs' j' v4 v5 v7, σ = [some (.ref A.p), some (.int slot), some (.ref due), v3, v4, v5, some (serV served), v7] ∧ CoAt C CS CC CG CLp H' A D { s2 with us := us', Qs := Qs', j := j' } (due :: X) ∧ H' due = some (.lst (ds.map V.ref)) ∧ TupsI H' ds ((dueQ D.gs D.tl P).map prQ) ∧ GrC H H' (A.wr st.as) (A.wr s2.as) ∧ Qs'.Perm (s2.Qs ++ ((dueQ D.gs D.tl P).take i).filterMap (nextQ D.gs D.tl served)) ∧ j' ≤ max D.gs.length (n + 1)) ⟨s2.us, s2.Qs, s2.j, v4, v5, none, rfl, W2.co, W2.hd, W2.td, W2.gr, by rw [List.take_zero, List.filterMap_nil, List.append_nil], by rw [W2.j]; exact hj⟩ (fun i σ H' _ z => ?_) ?_ ?_⟩
    · obtain ⟨_, _, _, _, _, _, _, _, z, _⟩ := z
      exact SqL.of z
    · rintro i x σ H3 hx ⟨us', Qs', j', w4, w5, w7, rfl, c3, hd3, td3, g3, pm3, hj3⟩
      obtain ⟨r, pr, rfl, hp, hr'⟩ := td3.get hx
      rw [List.getElem?_map] at hp
      cases hpx : (dueQ D.gs D.tl P)[i]? with
      | none => rw [hpx] at hp; cases hp
      | some x0 =>
        rw [hpx] at hp
        cases hp
        have hil := (List.getElem?_eq_some_iff.mp hpx).1
        obtain ⟨cn, kn, ex, hrep, hfin, hkn⟩ := W2.pq x0 (List.mem_of_getElem? hpx)
        subst ex
        have tk : (dueQ D.gs D.tl P).take (i + 1) = (dueQ D.gs D.tl P).take i ++ [(slot, (cn : Int), (kn : Int))] := by rw [List.take_add_one, hpx]; rfl
        refine ⟨r, _, rfl, SqT.of hr', rfl, _, _, rfl, _, _, rfl, rfl, ?_⟩
        obtain ⟨dx3, hob3⟩ := c3.ob
        obtain ⟨dxg, hog⟩ := c3.sg.ob
        refine ⟨_, rfl, A.p, CC, dx3, _, _, rfl, hob3, TC.cl, TC.n3, crf_3 _ _ _, A.sg, dxg, _, rfl, hog, sgf_no (by decide +kernel) (by decide +kernel), _, rfl, A.sg, A.gl, D.gs, D.tl, j', kn, rfl, c3.sg, by have := okG.1; omega, by omega, hrep, hfin, fun j2 H4 hj2 k4 sg4 => ?_⟩
        have c4 := c3.glw k4 sg4
        have ngl : due ≠ A.gl := fun z => dueW c4 (by rw [z]; simp [CoA.wr])
        have hd4 := k4 _ _ ngl hd3
        have tu4 : ∀ (r : Addr) (xs : List V), H3 r = some (.tup xs) → H4 r = some (.tup xs) := fun r xs e => k4 r _ (fun z => by rw [z, c3.sg.hl] at e; cases e) e
        have td4 := td3.kx tu4
        have g4 := g3.trans (GrC.kx k4 (by simp [CoA.wr]))
        have hj4 : j2 ≤ max D.gs.length (n + 1) := by omega
        have clc : cl (slot, (cn : Int), (kn : Int)) = cn := cl_of rfl
        refine ⟨_, rfl, _, rfl, by cases served <;> rfl, _, rfl, ?_⟩
        by_cases hsv : served = some cn
        · have e1 : decide (V.int (cn : Int) = serV served) = true := decide_eq_true (by rw [hsv]; rfl)
          have nx : nextQ D.gs D.tl served (slot, (cn : Int), (kn : Int)) = none := by
            unfold nextQ
            rw [clc, if_pos hsv]
          refine iteFb (by rw [show (V.int (prQ (slot, (cn : Int), (kn : Int))).1) = V.int (cn : Int) from rfl, e1]; rfl) (iteF ⟨us', Qs', j2, _, _, _, rfl, c4, hd4, td4, g4, ?_, hj4⟩)
          rw [tk, List.filterMap_append, List.filterMap_cons_none nx, List.filterMap_nil, List.append_nil]
          exact pm3
        · have e1 : decide (V.int (cn : Int) = serV served) = false := decide_eq_false (fun z => hsv (by
            cases served with
            | none => cases z
            | some b =>
              have := V.int.inj z
              rw [show cn = b by omega]))
          refine iteTb (by rw [show (V.int (prQ (slot, (cn : Int), (kn : Int))).1) = V.int (cn : Int) from rfl, e1]; rfl) ?_
          refine ⟨_, rfl, rfl, _, rfl, ?_⟩
          by_cases he : endQ D.gs D.tl (kn : Int) = true
          · have nx : nextQ D.gs D.tl served (slot, (cn : Int), (kn : Int)) = none := by
              unfold nextQ
              rw [clc, if_neg hsv, if_pos he]
            have ev : gapV D.gs D.tl kn = .non := by unfold gapV; rw [if_pos he]
            refine iteFb (by rw [ev]; rfl) ⟨us', Qs', j2, _, _, _, rfl, c4, hd4, td4, g4, ?_, hj4⟩
            rw [tk, List.filterMap_append, List.filterMap_cons_none nx, List.filterMap_nil, List.append_nil]
            exact pm3
          · have ev : gapV D.gs D.tl kn = .int (gapf D.gs D.tl kn) := by unfold gapV; rw [if_neg he]
            have nx : nextQ D.gs D.tl served (slot, (cn : Int), (kn : Int)) = some (slot + gapf D.gs D.tl kn, (cn : Int), (kn : Int) + 1) := by
              unfold nextQ
              rw [clc, if_neg hsv, if_neg he]
              have hs := off_succ (gs := D.gs) okT (n := kn) (fun z => by
                have : ¬ (D.gs.length : Int) ≤ (kn : Int) := fun y => he (endQ_iff.mpr ⟨z, y⟩)
                omega)
              show some (slot + (off D.gs D.tl ((kn : Int).toNat + 1) - off D.gs D.tl (kn : Int).toNat), (cn : Int), (kn : Int) + 1) = _
              rw [Int.toNat_natCast, show off D.gs D.tl (kn + 1) - off D.gs D.tl kn = gapf D.gs D.tl kn by omega]
            refine iteTb (by rw [ev]; rfl) ?_
            rw [ev]
            obtain ⟨dx4, hob4⟩ := c4.ob
            refine ⟨_, rfl, A.p, CC, dx4, _, _, rfl, hob4, TC.cl, TC.n5, crf_5 _ _ _, _, rfl, _, rfl, _, _, rfl, rfl, _, rfl, _, rfl, _, _, rfl, rfl, (by show 3 ≤ sizeLine; decide), fun t ht => ?_⟩
            have S5 := same_new (o := .tup [V.int (slot + gapf D.gs D.tl kn), V.int (cn : Int), V.int ((kn : Int) + 1)]) ht
            have c5 := c4.same S5
            have ht5 : (upd H4 t (.tup [V.int (slot + gapf D.gs D.tl kn), V.int (cn : Int), V.int ((kn : Int) + 1)])) t = some (tup3 (slot + gapf D.gs D.tl kn, (cn : Int), (kn : Int) + 1)) := upd_same
            have hd5 := S5 _ _ hd4
            have td5 := td4.same S5
            have g5 := g4.trans (GrC.same S5)
            have lus : us'.length ≤ 1000 := by
              have e1 : us'.length = Qs'.length := c5.qA.tr.1
              have e2 := pm3.length_eq
              rw [List.length_append] at e2
              have e3 := List.length_filterMap_le (nextQ D.gs D.tl served) ((dueQ D.gs D.tl P).take i)
              rw [List.length_take] at e3
              omega
            refine ⟨A.q, t, us', Qs', _, rfl, c5.qA, ht5, Nat.lt_of_le_of_lt lus (by decide), fun us2 Qs2 qa2 pp2 _ => ?_⟩
            have c6 := c5.qw qa2
            have nq : due ≠ A.q := fun z => dueW c4 (by rw [z]; simp [CoA.wr])
            refine ⟨us2, Qs2, j2, _, _, _, rfl, c6, by rw [upd_ne nq]; exact hd5, td5.kx (fun r xs e => by rw [upd_ne (fun z => by rw [z, c5.qA.hl] at e; cases e)]; exact e), g5.trans (GrC.kx Kx.upd (by simp [CoA.wr])), ?_, hj4⟩
            rw [tk, List.filterMap_append, List.filterMap_cons_some nx, List.filterMap_nil, ← List.append_assoc]
            exact pp2.trans (pm3.append_right _)
    rintro σ H3 ⟨us', Qs', j', w4, w5, w7, rfl, c3, hd3, td3, g3, pm3, hj3⟩
    rw [List.length_map, lds, List.take_length] at pm3
    refine k { s2 with us := us', Qs := Qs', j := j' } H3 g3 c3.less ⟨W2.inv.perm pm3, W2.wn, W2.fr, W2.ks, hj3⟩ W2.cc W2.fm ?_
    have := W2.ms
    show mu n Qs' + (unS D.bs s2.S).length + winL D.ws s2.free < _
    rw [mu_perm pm3]
    exact this
end
end RS
namespace RS
open PySem L2 Hpq
/-! ### Course.services, find_services -/
/-- what is asked of a scene's numbers -/
structure Near (D : ScD) (N : Nat) : Prop where
  b : ∃ lo hi : Int, (∀ c, c < D.bs.length → lo ≤ D.bs.getD c 0 ∧ D.bs.getD c 0 ≤ hi) ∧ hi - lo + D.ln < 2 ^ N ∧ ∀ w ∈ D.ws, w.2 ≤ lo + 2 ^ N
  N : N ≤ 1000
section
variable {P : Program} {w : World} {K : PySem.W.Frag} {mg : Str → Option Value} {base : Heap}
def spSv (C CS CC CG CLp : Addr) : Sp := fun vs H Q _ => ∃ (A : CoA) (D : ScD) (s : CoS) (X : List Addr) (F : Int) (N : Nat), vs = [.ref A.p] ∧ CoAt C CS CC CG CLp H A D s X ∧ CoRun D (kTop D.gs D.tl D.bs.length N) s F ∧ (s.ch = false → ∃ q, q ≤ s.free ∧ LoneH D.gs D.tl D.bs s.M q s.L) ∧ Near D N ∧
  ∀ S vs' H', RunS D.gs D.tl D.bs D.ws D.ln S → (∀ c u, H c = some u → c ∉ A.wr s.as → H' c = some u) → H' A.sv = some (.lst (vs'.map V.ref)) → TupsI H' vs' (S.map fun p => (p.1, (p.2 : Int))) → Q (.ref A.sv) H'
theorem scSv : FnScope ["self", "slot"] ["self"] (defScope s_Course_services) := ⟨rfl, rfl, rfl, by decide +kernel, rfl, by decide +kernel, by decide +kernel⟩
theorem next_slot {gs : List Int} {tl : Tl} {bs : List Int} {ws : List (Int × Int)} {ℓ : Int} {S : List (Int × Nat)} {free F : Int} {Qs : List Tri3} {M : List Nat} {L : Option Int} {x : Int} (okG : GapsOk gs) (okT : TlOk gs.length tl) (I : CoInv gs tl bs ws ℓ S free Qs M F) (hp : HpL Qs) (hf : F ≤ free) (hL : LoneH gs tl bs M free L) (hx : nextS Qs L = some x) :
    CoInv gs tl bs ws ℓ S free Qs M x ∧ ((∃ y ∈ Qs, y.1 = x) ∨ free ≤ x ∧ (hereL gs tl bs M x).length = 1) := by
  cases Qs with
  | nil =>
    have hx : L = some x := hx
    subst hx
    exact ⟨I.skip okG okT (by have := hL.1; omega) (fun y h => nomatch h) hL.2.2, .inr ⟨hL.1, hL.2.1⟩⟩
  | cons y R =>
    have low : ∀ z ∈ y :: R, y.1 ≤ z.1 := fun z hz => HpL.low (ps := y :: R) hp rfl hz
    have hF : F ≤ y.1 := by
      obtain ⟨c, k, rfl, h1, h2, h3, _⟩ := I.q y (List.mem_cons_self ..)
      exact h3
    cases L with
    | none =>
      have hx : some y.1 = some x := hx
      cases hx
      exact ⟨I.skip okG okT hF low (fun t h1 _ => hL t h1), .inl ⟨y, List.mem_cons_self .., rfl⟩⟩
    | some l =>
      have hx : (if y.1 < l then some y.1 else some l) = some x := hx
      split at hx
      · cases hx
        exact ⟨I.skip okG okT hF low (fun t h1 h2 => hL.2.2 t h1 (by omega)), .inl ⟨y, List.mem_cons_self .., rfl⟩⟩
      · cases hx
        exact ⟨I.skip okG okT (by have := hL.1; omega) (fun z hz => by have := low z hz; omega) hL.2.2, .inr ⟨hL.1, hL.2.1⟩⟩
theorem next_none {Qs : List Tri3} {L : Option Int} (h : nextS Qs L = none) : Qs = [] ∧ L = none := by
  cases Qs with
  | nil => exact ⟨rfl, h⟩
  | cons y R =>
    cases L with
    | none => cases h
    | some l =>
      have h : (if y.1 < l then some y.1 else some l) = none := h
      split at h <;> cases h
theorem ok_sv {f C CS CC CG CLp fF fP : Addr} {fd fdF fdP : FuncData} (F : Fun K "services" "Course.services" s_Course_services f fd) (T : Txt K mg C) (TC : TxtC K mg CC)
    (GF : FnOk P w K mg base CX0 2 fF fdF ["self"] (spFo C CS CC CG CLp)) (bF : Binds K fdF ["self"] []) (mF : Meth K CC "_following" fF) (GP : FnOk P w K mg base CX0 5 fP fdP ["self", "slot"] (spPs C CS CC CG CLp)) (bP : Binds K fdP ["self", "slot"] []) (mP : Meth K CC "_pass_slot" fP) : FnOk P w K mg base CX0 6 f fd ["self"] (spSv C CS CC CG CLp) := by
  refine F.ok scSv (fun vs H Q E h => ?_) (fun cdv A outer s H vs Q E hr h => ?_)
  · obtain ⟨A, D, s, X, F, N, rfl, _⟩ := h
    rfl
  · obtain ⟨A, D, st, X, F0, N, rfl, c, Rn, hl, nr, k⟩ := h
    have hr2 := hr.mono (show 2 ≤ 5 by decide)
    have okG := c.scn.R.okG
    have okT := c.scn.R.okT
    have b40 := c.scn.ok.b40
    have kt : kTop D.gs D.tl D.bs.length N ≤ 2000 := by
      have h1 := okG.1
      have h2 := nr.N
      unfold kTop
      split <;> omega
    generalize hK : kTop D.gs D.tl D.bs.length N = n at Rn kt
    refine ⟨_, (pss_cons (ps_set (i := 1) scSv.nd rfl (Or.inl rfl) (pe_meth0 (pv 0) TC.cl mF GF hr2 bF .nil pass0)) (pss_cons (ps_while PassesOwn.never (PW.pt (pw_and (pt_cmpR op_gt (pe_fld (pv 0) rfl) pe_int (nomark _)) (pw_and1 (pt_cmpR op_notN (pv 1) pe_non (nomark _))))) (pss_cons (ps_expr (pe_meth (pv 0) TC.cl mP GP hr bP .nil pass0 (pa_cons (pv 1) pa_nil))) (pss_one (ps_set (i := 1) scSv.nd rfl (Or.inl rfl) (pe_meth0 (pv 0) TC.cl mF GF hr2 bF .nil pass0))))) (pss_one (ps_ret (pe_fld (pv 0) rfl))))), ?_⟩
    obtain ⟨dx, hob⟩ := c.ob
    have cno : ∀ {m : Str} {fr : Int} {wn : Nat}, m ≠ "_scene" → m ≠ "_starts" → m ≠ "_gaps" → m ≠ "_loop" → m ≠ "_queue" → m ≠ "_free" → m ≠ "_waiting" → m ≠ "_services" → (crf A fr wn).lookup m = none := fun a b c d e f g h => crf_no _ _ _ a b c d e f g h
    have kb : ∀ {s : CoS} {F : Int}, CoRun D n s F → s.ks.length ≤ 100000 := fun R => by
      have h1 := R.ks
      have h2 := co_len okG okT R.inv
      omega
    refine ⟨_, rfl, A.p, dx, _, rfl, hob, cno (by decide +kernel) (by decide +kernel) (by decide +kernel) (by decide +kernel) (by decide +kernel) (by decide +kernel) (by decide +kernel) (by decide +kernel), A, D, st, X, rfl, c, kb Rn, hl, fun L1 H1 kx1 c1 lone1 => ?_⟩
    refine ⟨fun m σ H' => ∃ s' F' , σ = [some (.ref A.p), some (optV (nextS s'.Qs s'.L))] ∧ m = meas n D s' ∧ CoAt C CS CC CG CLp H' A D s' X ∧ CoRun D n s' F' ∧ s'.ch = false ∧ LoneH D.gs D.tl D.bs s'.M s'.free s'.L ∧ GrC H H' (A.wr st.as) (A.wr s'.as), ⟨_, { st with L := L1, ch := false }, F0, rfl, rfl, c1, ⟨Rn.inv, Rn.wn, Rn.fr, Rn.ks, Rn.j⟩, rfl, lone1, GrC.kx kx1 (by simp [CoA.wr])⟩, ?_⟩
    rintro m σ H2 ⟨s', F', rfl, rfl, c2, R2, hch, lone2, g2⟩
    obtain ⟨dx2, hob2⟩ := c2.ob
    refine ⟨_, rfl, A.p, CC, dx2, _, _, rfl, hob2, TC.cl, TC.n7, crf_7 _ _ _, _, _, rfl, rfl, _, rfl, ?_⟩
    have done_ : RunS D.gs D.tl D.bs D.ws D.ln s'.S → Q (.ref A.sv) H2 := fun rs => k s'.S s'.vs H2 rs g2.fp c2.svL c2.svT
    by_cases hw : s'.wn = 0
    · refine iteFb (decide_eq_false (by omega)) (iteF ?_)
      refine ⟨_, rfl, A.p, CC, dx2, _, _, rfl, hob2, TC.cl, TC.n8, crf_8 _ _ _, done_ (co_stop okG okT R2.inv fun c hc h1 => un_zero (by rw [← R2.wn]; exact hw) c hc h1)⟩
    refine iteTb (decide_eq_true (by omega)) ?_
    refine ⟨_, rfl, rfl, _, rfl, ?_⟩
    cases hx : nextS s'.Qs s'.L with
    | none =>
      obtain ⟨e1, e2⟩ := next_none hx
      refine iteFb rfl ?_
      refine ⟨_, rfl, A.p, CC, dx2, _, _, rfl, hob2, TC.cl, TC.n8, crf_8 _ _ _, done_ ?_⟩
      have I := R2.inv
      rw [e1] at I
      rw [e2] at lone2
      exact co_end okG okT I lone2
    | some x =>
      refine iteTb rfl (⟨fun σ' H' => ∃ s'' F', σ' = [some (.ref A.p), some (optV (nextS s''.Qs s''.L))] ∧ meas n D s'' < meas n D s' ∧ CoAt C CS CC CG CLp H' A D s'' X ∧ CoRun D n s'' F' ∧ s''.ch = false ∧ LoneH D.gs D.tl D.bs s''.M s''.free s''.L ∧ GrC H H' (A.wr st.as) (A.wr s''.as), fun σ' H' ⟨s'', F'', a1, a2, a3⟩ => ⟨meas n D s'', a2, s'', F'', a1, rfl, a3⟩, ?_⟩)
      obtain ⟨I2, hsome⟩ := next_slot okG okT R2.inv c2.qA.hp R2.fr lone2 hx
      obtain ⟨lo, hi, hb, hN, hwn⟩ := nr.b
      have kbd : ∀ y ∈ s'.Qs, y.1 = x → 0 ≤ y.2.2 ∧ y.2.2.toNat ≤ n := fun y hy e => by
        rw [← hK]
        exact k_top okG okT I2 hb hN hwn (by have := c.scn.ok.n1; omega) (by rw [← R2.wn]; exact hw) hy e
      refine ⟨_, rfl, A.p, dx2, _, rfl, hob2, cno (by decide +kernel) (by decide +kernel) (by decide +kernel) (by decide +kernel) (by decide +kernel) (by decide +kernel) (by decide +kernel) (by decide +kernel), _, rfl, A, D, s', X, x, n, rfl, c2, I2, R2.wn, by omega, R2.ks, R2.j, kt, kbd, hsome, fun s3 H3 g3 c3 R3 cc fm ms => ?_⟩
      obtain ⟨dx3, hob3⟩ := c3.ob
      refine ⟨_, rfl, A.p, dx3, _, rfl, hob3, cno (by decide +kernel) (by decide +kernel) (by decide +kernel) (by decide +kernel) (by decide +kernel) (by decide +kernel) (by decide +kernel) (by decide +kernel), A, D, s3, X, rfl, c3, kb R3, fun h => ?_, fun L4 H4 kx4 c4 lone4 => ?_⟩
      · obtain ⟨a1, a2, a3⟩ := cc h
        exact ⟨s'.free, fm, by rw [a2, a3]; exact lone2⟩
      · exact ⟨{ s3 with L := L4, ch := false }, x + 1, rfl, ms, c4, ⟨R3.inv, R3.wn, R3.fr, R3.ks, R3.j⟩, rfl, lone4, (g2.trans g3).trans (GrC.kx kx4 (by simp [CoA.wr]))⟩
/-! ### find_services -/
def spFs (C CS : Addr) : Sp := fun vs H Q _ => ∃ (a sc r g t o sl wl : Addr) (gs : List Int) (tl : Tl) (bs : List Int) (rs : List V) (ws : List (Int × Int)) (ln : Int) (N : Nat), vs = [.ref sc] ∧ SceneAt C CS a H sc r g t o sl wl gs tl bs rs ws ln ∧ Near ⟨gs, tl, bs, ws, ln⟩ N ∧
  ∀ S q vs' H', RunS gs tl bs ws ln S → Same H H' → H q = none → H' q = some (.lst (vs'.map V.ref)) → TupsI H' vs' (S.map fun p => (p.1, (p.2 : Int))) → Q (.ref q) H'
theorem scFs : FnScope ["scene"] ["scene"] (defScope s_find_services) := ⟨rfl, rfl, rfl, by decide +kernel, rfl, by decide +kernel, by decide +kernel⟩
theorem ok_fs {f C CS CC CG CLp fI fV : Addr} {fd fdI fdV : FuncData} (F : Fun K "find_services" "find_services" s_find_services f fd) (T : Txt K mg C) (TC : TxtC K mg CC) (MC : Mk K CC fI) (GI : FnOk P w K mg base CX0 6 fI fdI ["self", "scene"] (spCo0 C CS CC CG CLp)) (bI : Binds K fdI ["self", "scene"] [])
    (GV : FnOk P w K mg base CX0 6 fV fdV ["self"] (spSv C CS CC CG CLp)) (bV : Binds K fdV ["self"] []) (mV : Meth K CC "services" fV) : FnOk P w K mg base CX0 8 f fd ["scene"] (spFs C CS) := by
  refine F.ok scFs (fun vs H Q E h => ?_) (fun cdv A outer s H vs Q E hr h => ?_)
  · obtain ⟨a, sc, r, g, t, o, sl, wl, gs, tl, bs, rs, ws, ln, N, rfl, _⟩ := h
    rfl
  · obtain ⟨a, sc, r, g, t, o, sl, wl, gs, tl, bs, rs, ws, ln, N, rfl, S, nr, k⟩ := h
    have hr6 := hr.mono (show 6 ≤ 7 by decide)
    refine ⟨_, (pss_one (ps_ret (pe_meth0 (pe_make MC GI hr rfl TC.mgC bI .nil pass0 (pa_cons (pv 0) pa_nil)) TC.cl mV GV hr6 bV .nil pass0))), ?_⟩
    refine ⟨_, rfl, fun p dx hp hdx _ => ?_⟩
    have Sm : Same H (upd (upd H dx (.own p)) p (.ins CC dx [])) := made_same hp hdx
    refine ⟨a, p, dx, sc, r, g, t, o, sl, wl, gs, tl, bs, rs, ws, ln, rfl, upd_same, S.kx (Kx.of Sm), fun A s H1 hAp hAs hAw kx hnew c c0 => ⟨rfl, ?_⟩⟩
    have S1 : Same H H1 := fun b u e => kx b u (ne_of_none e hp) (Sm _ _ e)
    obtain ⟨dx1, hob1⟩ := c.ob
    have okG : GapsOk gs := c.scn.R.okG
    have okT : TlOk gs.length tl := c.scn.R.okT
    have I0 : CoInv gs tl bs ws ln s.S s.free s.Qs s.M s.free := by
      rw [c0.S, c0.M]
      exact (co_start okG okT c0.free).perm c0.Qs
    have Rn : CoRun ⟨gs, tl, bs, ws, ln⟩ (kTop gs tl bs.length N) s s.free := by
      refine ⟨I0, ?_, Int.le_refl _, ?_, ?_⟩
      · rw [c0.wn, c0.S]
      · rw [c0.ks]
        exact Nat.zero_le _
      · have := c0.j
        show s.j ≤ max gs.length _
        have : s.j ≤ gs.length := this
        omega
    subst hAp
    refine ⟨A.p, dx1, _, rfl, hob1, crf_no _ _ _ (by decide +kernel) (by decide +kernel) (by decide +kernel) (by decide +kernel) (by decide +kernel) (by decide +kernel) (by decide +kernel) (by decide +kernel), A, ⟨gs, tl, bs, ws, ln⟩, s, [], s.free, N, rfl, c, Rn, fun _ => ⟨s.free, Int.le_refl _, ?_⟩, nr, fun S' vs' H2 rs g2 hsv tv => ?_⟩
    · rw [c0.M, c0.L]
      have e : ∀ t, hereL gs tl bs [] t = [] := fun t => by
        cases tl with
        | rep m => rfl
        | fin => rfl
        | times b => rfl
      intro t _
      rw [e]
      decide
    · rw [c0.as] at g2
      have fr : ∀ x ∈ A.wr [], H x = none := fun x hx => by
        rcases hnew x hx with e | e
        · rw [e]
          exact hp
        · exact Sm.free e
      exact k S' A.sv vs' H2 rs (fun b u e => g2 b u (S1 _ _ e) fun z => by rw [fr b z] at e; cases e) (fr _ (by simp [CoA.wr])) hsv tv
end
end RS
namespace RS
open PySem L2
section
variable {P : Program} {w : World} {K : PySem.W.Frag} {mg : Str → Option Value} {base : Heap}
/-! ### _first_at_least -/
def spFal : Sp := fun vs H Q _ => ∃ (o : Addr) (xs : List Int) (d : Int) (j : Nat), vs = [.ref o, .int d] ∧ H o = some (.lst (xs.map V.int)) ∧ j < xs.length ∧ d ≤ xs.getD j 0 ∧ ∀ n : Nat, n ≤ j → d ≤ xs.getD n 0 → (∀ i, i < n → xs.getD i 0 < d) → Q (.int (n : Int)) H
theorem scFal : FnScope ["offsets", "distance", "position"] ["offsets", "distance"] (defScope s_first_at_least) := ⟨rfl, rfl, rfl, by decide +kernel, rfl, by decide +kernel, by decide +kernel⟩
theorem ok_fal {f : Addr} {fd : FuncData} (F : Fun K "_first_at_least" "_first_at_least" s_first_at_least f fd) : FnOk P w K mg base CX0 1 f fd ["offsets", "distance"] spFal := by
  refine F.ok scFal (fun vs H Q E h => ?_) (fun cdv A outer s H vs Q E hr h => ?_)
  · obtain ⟨o, xs, d, j, rfl, _⟩ := h
    rfl
  · obtain ⟨o, xs, d, j, rfl, ho, hj, hd, k⟩ := h
    refine ⟨_, (pss_cons (ps_set (i := 2) scFal.nd rfl (Or.inl rfl) pe_int) (pss_cons (ps_while PassesOwn.never (pt_cmpR op_lt (pe_ix ix_list (pv 0) (pv 2) (fun _ _ => rfl)) (pv 1) (nomark _)) (pss_one (ps_set (i := 2) scFal.nd rfl (Or.inl rfl) (pe_op op_add (pv 2) pe_int)))) (pss_one (ps_ret (pv 2))))), ?_⟩
    refine ⟨fun m σ H' => H' = H ∧ ∃ i : Nat, i ≤ j ∧ m = j - i ∧ σ = [some (.ref o), some (.int d), some (.int (i : Int))] ∧ ∀ k, k < i → xs.getD k 0 < d, ⟨j, rfl, 0, Nat.zero_le _, rfl, rfl, fun k hk => absurd hk (Nat.not_lt_zero _)⟩, ?_⟩
    rintro m σ H' ⟨rfl, i, hi, rfl, rfl, hall⟩
    refine ⟨_, rfl, _, rfl, o, _, _, _, rfl, rfl, SqL.of ho, at_map (getD_get (by omega)), _, rfl, _, _, rfl, rfl, _, rfl, ?_⟩
    by_cases hlt : xs.getD i 0 < d
    · refine iteTb (decide_eq_true hlt) ?_
      have hne : i ≠ j := fun e => by subst e; omega
      refine ⟨fun σ' H2 => H2 = H' ∧ σ' = [some (.ref o), some (.int d), some (.int ((i : Int) + 1))], ?_, ?_⟩
      · rintro σ' H2 ⟨rfl, rfl⟩
        refine ⟨j - (i + 1), by omega, rfl, i + 1, by omega, rfl, rfl, fun k hk => ?_⟩
        by_cases e : k = i
        · subst e
          exact hlt
        · exact hall k (by omega)
      · exact ⟨_, rfl, _, _, rfl, rfl, rfl, rfl⟩
    · refine iteFb (decide_eq_false hlt) ?_
      exact ⟨_, rfl, k i hi (by omega) hall⟩
/-! ### _surely_short -/
theorem geo_short {b : Int} (h : 2 ≤ b) : ∀ k, b * geo b k < 2 * b ^ k
  | 0 => by simp [geo]
  | k + 1 => by
    have ih := geo_short h k
    have p : 0 < b ^ k := Int.pow_pos (by omega)
    have e : 2 * b ^ k ≤ b * b ^ k := Int.mul_le_mul_of_nonneg_right h (Int.le_of_lt p)
    rw [geo, Int.mul_add, Int.pow_succ, Int.mul_comm (b ^ k) b]
    omega
theorem bits_nat {n : Nat} (h : 0 < n) : ∃ j, Builtin.Int.intBits (n : Int) = j + 1 ∧ 2 ^ j ≤ n ∧ n < 2 ^ (j + 1) := by
  refine ⟨n.log2, ?_, Nat.log2_self_le (by omega), Nat.lt_log2_self⟩
  unfold Builtin.Int.intBits
  rw [if_neg (by simp; omega)]
  rfl
theorem short_ok {L b way : Int} (hL : 1 ≤ L) (hb : 2 ≤ b) (hw : 0 < way) {k : Nat} (h : (k : Int) ≤ (((Builtin.Int.intBits way : Nat) : Int) - ((Builtin.Int.intBits L : Nat) : Int) - 2) / ((Builtin.Int.intBits (b - 1) : Nat) : Int)) : 2 * L * b ^ k ≤ way := by
  obtain ⟨L, rfl⟩ := Int.eq_ofNat_of_zero_le (show 0 ≤ L by omega)
  obtain ⟨way, rfl⟩ := Int.eq_ofNat_of_zero_le (show 0 ≤ way by omega)
  obtain ⟨c, hc⟩ := Int.eq_ofNat_of_zero_le (show 0 ≤ b - 1 by omega)
  have eb : b = ((c + 1 : Nat) : Int) := by omega
  rw [hc] at h
  subst eb
  obtain ⟨w, ew, hw1, _⟩ := bits_nat (n := way) (by omega)
  obtain ⟨l, el, _, hl1⟩ := bits_nat (n := L) (by omega)
  obtain ⟨d, ed, _, hd1⟩ := bits_nat (n := c) (by omega)
  rw [ew, el, ed] at h
  have h2 : (k : Int) * ((d + 1 : Nat) : Int) ≤ ((w + 1 : Nat) : Int) - ((l + 1 : Nat) : Int) - 2 :=
    Int.le_trans (Int.mul_le_mul_of_nonneg_right h (by omega)) (Int.ediv_mul_le _ (by omega))
  rw [← Int.natCast_mul] at h2
  have h3 : k * (d + 1) + l + 2 ≤ w := by omega
  have p1 : (c + 1) ^ k ≤ (2 ^ (d + 1)) ^ k := Nat.pow_le_pow_left (by omega) k
  rw [← Nat.pow_mul, Nat.mul_comm] at p1
  have p2 : L * (c + 1) ^ k ≤ 2 ^ (l + 1) * 2 ^ (k * (d + 1)) := Nat.mul_le_mul (by omega) p1
  rw [← Nat.pow_add] at p2
  have p3 : 2 ^ (l + 1 + k * (d + 1)) * 2 ≤ 2 ^ w := by
    rw [← Nat.pow_succ]
    exact Nat.pow_le_pow_right (by decide) (by omega)
  have p4 : 2 * (L * (c + 1) ^ k) ≤ way := by omega
  rw [Int.mul_assoc]
  exact_mod_cast p4
def spSs (C : Addr) : Sp := fun vs H Q _ => ∃ (p g t o : Addr) (gs : List Int) (b d : Int), vs = [.ref p, .int d] ∧ RuleAt C H p g t o gs (.times b) ∧ 0 < d ∧ ∀ k : Nat, (0 < k → 2 * lastG gs * b ^ k ≤ d) → Q (.int (k : Int)) H
theorem scSs : FnScope ["self", "way", "bits"] ["self", "way"] (defScope s_Rule_surely_short) := ⟨rfl, rfl, rfl, by decide +kernel, rfl, by decide +kernel, by decide +kernel⟩
theorem ok_ss {f C : Addr} {fd : FuncData} (F : Fun K "_surely_short" "Rule._surely_short" s_Rule_surely_short f fd) (T : Txt K mg C) : FnOk P w K mg base CX0 1 f fd ["self", "way"] (spSs C) := by
  refine F.ok scSs (fun vs H Q E h => ?_) (fun cdv A outer s H vs Q E hr h => ?_)
  · obtain ⟨p, g, t, o, gs, b, d, rfl, _⟩ := h
    rfl
  · obtain ⟨p, g, t, o, gs, b, d, rfl, R, hd0, k⟩ := h
    have hl := R.okT.1
    have hb0 := R.okT.2.1
    have hb1 := R.okT.2.2
    have hg := gap_bd R.okG (k := gs.length - 1) (by omega)
    have hg : 1 ≤ lastG gs ∧ lastG gs ≤ 1000000000000 := hg
    refine ⟨_, (pss_cons (ps_set (i := 2) scSs.nd rfl (Or.inl rfl) (pe_op op_sub (pe_op op_sub (pe_bits (pv 1)) (pe_bits (pe_ix ix_list (pe_fld (pv 0) rfl) (pe_un un_neg pe_int) (fun _ _ => rfl)))) pe_int)) (pss_one (ps_ret (pe_callB (call_max2 rfl) (by rfl) T.max (by decide +kernel) (pa_cons pe_int (pa_cons (pe_op op_fdiv (pv 2) (pe_bits (pe_op op_sub (pe_ix ix_tup (pe_fld (pv 0) rfl) pe_int (fun _ _ => rfl)) pe_int))) pa_nil)))))), ?_⟩
    refine ⟨_, rfl, d, rfl, ?_⟩
    refine rdLast T R rfl hl ⟨_, rfl, _, _, rfl, rfl, _, _, rfl, rfl, ?_⟩
    refine ⟨_, rfl, ?_⟩
    refine rdB T R rfl ⟨_, _, rfl, rfl, _, rfl, ?_⟩
    obtain ⟨c, hc⟩ := Int.eq_ofNat_of_zero_le (show 0 ≤ b - 1 by omega)
    obtain ⟨j, ej, hj1, _⟩ := bits_nat (n := c) (by omega)
    have hj : 2 ^ j < 2 ^ 10 := by omega
    have hj2 := (Nat.pow_lt_pow_iff_right (a := 2) (by decide)).mp hj
    have hcb : ((Builtin.Int.intBits (b - 1) : Nat) : Int) = ((j + 1 : Nat) : Int) := by rw [hc, ej]
    refine ⟨_, _, rfl, rfl, ⟨by omega, by omega⟩, _, _, rfl, ?_⟩
    split
    · rename_i hp
      obtain ⟨n, hn⟩ := Int.eq_ofNat_of_zero_le (Int.le_of_lt hp)
      rw [hn]
      exact k n fun _ => short_ok hg.1 hb0 hd0 (by rw [← hn]; exact Int.le_refl _)
    · exact k 0 fun h => absurd h (Nat.lt_irrefl _)
/-! ### _first_growing -/
def spFg (C : Addr) : Sp := fun vs H Q _ => ∃ (p g t o : Addr) (gs : List Int) (b d : Int), vs = [.ref p, .int d] ∧ RuleAt C H p g t o gs (.times b) ∧ pre gs gs.length < d ∧ d ≤ off gs (.times b) 1000 ∧ ∀ r H', Same H H' → FF gs (.times b) d r → Q r H'
theorem scFg : FnScope ["self", "distance", "attempt", "offset", "gap"] ["self", "distance"] (defScope s_Rule_first_growing) := ⟨rfl, rfl, rfl, by decide +kernel, rfl, by decide +kernel, by decide +kernel⟩
theorem rdTb {tr : TE} {C p g t o : Addr} {gs : List Int} {H : Hp} {σ : L2.St} {i : Nat} {b : Int} {sp : Sp} {dvs : List V} {E : XK} {Q : VK} (T : Txt K mg C) (R : RuleAt C H p g t o gs (.times b)) (hi : σ[i]? = some (some (.ref p))) (q : tr σ H fun y H2 => sp ([.int b, y] ++ dvs) H2 Q E) :
    tCall sp dvs E (tCons (tOp (rIxT K) (tFld K (tVar i) "_tail") (tC (.int 1))) (tCons tr tNil)) σ H Q := by
  dsimp only [tCall, tCons]
  exact rdB T R hi q
theorem ok_fg {f C fS fO fW : Addr} {fd fdS fdO fdW : FuncData} (F : Fun K "_first_growing" "Rule._first_growing" s_Rule_first_growing f fd) (T : Txt K mg C) (FS : Fun K "_surely_short" "Rule._surely_short" s_Rule_surely_short fS fdS) (bS : Binds K fdS ["self", "way"] []) (mS : Meth K C "_surely_short" fS)
    (GO : FnOk P w K mg base CX0 3 fO fdO ["self", "attempt"] (spOff C)) (bO : Binds K fdO ["self", "attempt"] []) (mO : Meth K C "_offset_of" fO) (FW : Fun K "_power" "_power" s_power fW fdW) (bW : Binds K fdW ["base", "exponent"] []) (mW : mg "_power" = some (.ref fW)) : FnOk P w K mg base CX0 4 f fd ["self", "distance"] (spFg C) := by
  have GS : FnOk P w K mg base CX0 1 fS fdS ["self", "way"] (spSs C) := ok_ss FS T
  have GW : FnOk P w K mg base CX0 1 fW fdW ["base", "exponent"] spPower := ok_power FW
  refine F.ok scFg (fun vs H Q E h => ?_) (fun cdv A outer s H vs Q E hr h => ?_)
  · obtain ⟨p, g, t, o, gs, b, d, rfl, _⟩ := h
    rfl
  · obtain ⟨p, g, t, o, gs, b, d, rfl, R, hd0, hd1, k⟩ := h
    have hr1 := hr.mono (show 1 ≤ 3 by decide)
    have hl := R.okT.1
    have hb0 := R.okT.2.1
    have hb1 := R.okT.2.2
    have hlen : gs.length ≤ 20 := R.okG.1
    refine ⟨_, (pss_cons (ps_set (i := 2) scFg.nd rfl (Or.inl rfl) (pe_op op_add (pe_callB call_len_seq (by rfl) T.len (by decide +kernel) (pa_cons (pe_fld (pv 0) rfl) pa_nil)) (pe_meth (pv 0) T.cl mS GS hr1 bS .nil pass0 (pa_cons (pe_op op_sub (pv 1) (pe_ix ix_list (pe_fld (pv 0) rfl) (pe_un un_neg pe_int) (fun _ _ => rfl))) pa_nil)))) (pss_cons (ps_set (i := 3) scFg.nd rfl (Or.inl rfl) (pe_meth (pv 0) T.cl mO GO hr bO .nil pass0 (pa_cons (pv 2) pa_nil))) (pss_cons (ps_set (i := 4) scFg.nd rfl (Or.inl rfl) (pe_op op_mulW (pe_ix ix_list (pe_fld (pv 0) rfl) (pe_un un_neg pe_int) (fun _ _ => rfl)) (pe_call GW hr1 rfl mW FW.kp bW .nil pass0 (pa_cons (pe_ix ix_tup (pe_fld (pv 0) rfl) pe_int (fun _ _ => rfl)) (pa_cons (pe_op op_sub (pv 2) (pe_callB call_len_seq (by rfl) T.len (by decide +kernel) (pa_cons (pe_fld (pv 0) rfl) pa_nil))) pa_nil))))) (pss_cons (ps_while PassesOwn.never (pt_cmpR op_lt (pv 3) (pv 1) (nomark _)) (pss_cons (ps_set (i := 4) scFg.nd rfl (Or.inl rfl) (pe_op op_mul (pv 4) (pe_ix ix_tup (pe_fld (pv 0) rfl) pe_int (fun _ _ => rfl)))) (pss_cons (ps_set (i := 3) scFg.nd rfl (Or.inl rfl) (pe_op op_add (pv 3) (pv 4))) (pss_one (ps_set (i := 2) scFg.nd rfl (Or.inl rfl) (pe_op op_add (pv 2) pe_int)))))) (pss_one (ps_ret (pv 2))))))), ?_⟩
    obtain ⟨dx, hob⟩ := R.ob
    refine rdG T R rfl ⟨g, _, rfl, .inl (SqL.of R.hg), ?_⟩
    rw [List.length_map]
    refine ⟨_, rfl, p, dx, _, rfl, hob, flds_no _ _ _ (by decide +kernel) (by decide +kernel) (by decide +kernel), _, rfl, ?_⟩
    refine rdLastO T R rfl ⟨_, _, rfl, rfl, p, g, t, o, gs, b, _, rfl, R, by omega, fun k0 hk0 => ?_⟩
    refine ⟨_, _, rfl, rfl, ?_⟩
    have ok0 : gs.length + k0 ≤ 1000 ∧ (0 < k0 → off gs (.times b) (gs.length + k0) < d) := by
      by_cases hz : 0 < k0
      · have h1 := hk0 hz
        have h2 := geo_short hb0 k0
        have hg := gap_bd R.okG (k := gs.length - 1) (by omega)
        have hg : 1 ≤ lastG gs ∧ lastG gs ≤ 1000000000000 := hg
        have h3 : lastG gs * (b * geo b k0) < lastG gs * (2 * b ^ k0) := Int.mul_lt_mul_of_pos_left h2 (by omega)
        have h4 : lastG gs * (2 * b ^ k0) = 2 * lastG gs * b ^ k0 := by rw [Int.mul_comm 2 (lastG gs), Int.mul_assoc]
        have h5 : off gs (.times b) (gs.length + k0) < d := by
          rw [off_times hb0 (Nat.le_add_right _ _), Nat.add_sub_cancel_left, Int.mul_assoc]
          omega
        refine ⟨?_, fun _ => h5⟩
        by_cases hn : gs.length + k0 ≤ 1000
        · exact hn
        · have := off_lt R.okG R.okT (i := 1000) (j := gs.length + k0) (by omega) (fun e => nomatch e)
          omega
      · exact ⟨by omega, fun h => absurd h hz⟩
    dsimp only [gName]
    rw [← Int.natCast_add]
    refine ⟨_, rfl, p, dx, _, rfl, hob, flds_no _ _ _ (by decide +kernel) (by decide +kernel) (by decide +kernel), _, rfl, p, g, t, o, gs, .times b, gs.length + k0, rfl, R, ok0.1, fun H1 S1 => ?_⟩
    have R1 := R.mono S1
    dsimp only [tSeq, tAsg, tOp]
    refine rdLast T R1 rfl hl ?_
    refine rdTb T R1 rfl ⟨_, rfl, ?_⟩
    refine rdG T R1 rfl ⟨g, _, rfl, .inl (SqL.of R1.hg), _, _, rfl, rfl, ?_⟩
    refine ⟨b, k0, ?_, by omega, by omega, by omega, _, _, rfl, rfl, ?_, ?_⟩
    · rw [List.length_map]
      show [V.int b, V.int (((gs.length + k0 : Nat) : Int) - (gs.length : Int))] = _
      rw [show ((gs.length + k0 : Nat) : Int) - (gs.length : Int) = (k0 : Int) by omega]
    · have hg := gap_bd R.okG (k := gs.length - 1) (by omega)
      have hg : 1 ≤ lastG gs ∧ lastG gs ≤ 1000000000000 := hg
      exact wide_mul (a := 64) (b := 20481) (by omega) (pow_small (by omega) (by omega) (by omega)) (by decide) (by decide) (by decide)
    generalize hn0' : gs.length + k0 = n0 at ok0 ⊢
    have hn0 : gs.length ≤ n0 := by omega
    have ek : k0 = n0 - gs.length := by omega
    subst ek
    refine ⟨fun m σ H' => H' = H1 ∧ ∃ n : Nat, gs.length ≤ n ∧ n ≤ 1000 ∧ m = 1000 - n ∧ σ = [some (.ref p), some (.int d), some (.int (n : Int)), some (.int (off gs (.times b) n)), some (.int (lastG gs * b ^ (n - gs.length)))] ∧ (n0 < n → off gs (.times b) (n - 1) < d) ∧ n0 ≤ n, ⟨1000 - n0, rfl, n0, hn0, ok0.1, rfl, rfl, fun h => absurd h (Nat.lt_irrefl _), Nat.le_refl _⟩, ?_⟩
    rintro m σ H' ⟨rfl, n, hn0, hn1, rfl, rfl, hall, hnn⟩
    refine ⟨_, rfl, _, rfl, _, _, rfl, rfl, _, rfl, ?_⟩
    by_cases hlt : off gs (.times b) n < d
    · refine iteTb (decide_eq_true hlt) ?_
      have hne : n ≠ 1000 := fun e => by subst e; omega
      have eg : lastG gs * b ^ (n - gs.length) * b = lastG gs * b ^ (n + 1 - gs.length) := by
        rw [show n + 1 - gs.length = (n - gs.length) + 1 by omega, Int.pow_succ, Int.mul_assoc]
      have eo : off gs (.times b) n + lastG gs * b ^ (n + 1 - gs.length) = off gs (.times b) (n + 1) := by
        rw [off_succ R.okT (n := n) (fun e => nomatch e), gap_times hn0, show n + 1 - gs.length = (n - gs.length) + 1 by omega]
      refine ⟨fun σ' H2 => H2 = H' ∧ σ' = [some (.ref p), some (.int d), some (.int ((n : Int) + 1)), some (.int (off gs (.times b) (n + 1))), some (.int (lastG gs * b ^ (n + 1 - gs.length)))], ?_, ?_⟩
      · rintro σ' H2 ⟨rfl, rfl⟩
        exact ⟨1000 - (n + 1), by omega, rfl, n + 1, by omega, by omega, rfl, rfl, fun _ => hlt, by omega⟩
      · refine ⟨_, rfl, ?_⟩
        refine rdB T R1 rfl ⟨_, _, rfl, rfl, .inr ⟨by omega, by omega⟩, ?_⟩
        refine ⟨_, rfl, _, rfl, _, _, rfl, rfl, _, rfl, _, _, rfl, rfl, rfl, ?_⟩
        show [some (V.ref p), some (V.int d), some (V.int ((n : Int) + 1)), some (V.int (off gs (.times b) n + lastG gs * b ^ (n - gs.length) * b)), some (V.int (lastG gs * b ^ (n - gs.length) * b))] = _
        rw [eg, eo]
    · refine iteFb (decide_eq_false hlt) ?_
      have hne : gs.length ≠ n := fun e => by
        subst e
        rw [off_low (Nat.le_refl gs.length)] at hlt
        exact hlt hd0
      refine ⟨_, rfl, k _ _ S1 (.inr ⟨n, rfl, hn1, by omega, fun _ => ?_⟩)⟩
      by_cases h2 : n0 < n
      · exact hall h2
      · have e3 : n = n0 := by omega
        subst e3
        exact absurd (ok0.2 (by omega)) hlt
theorem rdOc {C p g t o : Addr} {gs : List Int} {tl : Tl} {H : Hp} {σ : L2.St} {i : Nat} {sp : Sp} {dvs : List V} {E : XK} {tr : TA} {Q : VK} (T : Txt K mg C) (R : RuleAt C H p g t o gs tl) (hi : σ[i]? = some (some (.ref p))) (q : tr σ H fun xs H2 => sp ((.ref o :: xs) ++ dvs) H2 Q E) :
    tCall sp dvs E (tCons (tFld K (tVar i) "_offsets") tr) σ H Q := by
  dsimp only [tCall, tCons]
  exact rdO T R hi q
/-! ### _first_repeated -/
def spFrp (C : Addr) : Sp := fun vs H Q _ => ∃ (p g t o : Addr) (gs : List Int) (m : Nat) (d : Int), vs = [.ref p, .int d] ∧ RuleAt C H p g t o gs (.rep m) ∧ pre gs gs.length < d ∧ d < 2 ^ 200 ∧ ∀ r H', Same H H' → FF gs (.rep m) d r → Q r H'
theorem scFrp : FnScope ["self", "distance", "first", "periods", "rest", "within"] ["self", "distance"] (defScope s_Rule_first_repeated) := ⟨rfl, rfl, rfl, by decide +kernel, rfl, by decide +kernel, by decide +kernel⟩
theorem offsD {gs : List Int} {j : Nat} (h : j ≤ gs.length) : (offs gs).getD j 0 = pre gs j := by
  rw [List.getD_eq_getElem?_getD, offs_get gs h]
  rfl
theorem bits_lt {i : Int} (h0 : 0 ≤ i) (h1 : i < 2 ^ 200) : Builtin.Int.intBits i ≤ 200 := by
  unfold Builtin.Int.intBits
  split
  · omega
  · have := PySem.Flt.log2_lt_of (n := i.natAbs) (k := 200) (by decide) (by omega)
    omega
theorem ok_frp {f C fR fP fL : Addr} {fd fdR fdP fdL : FuncData} (F : Fun K "_first_repeated" "Rule._first_repeated" s_Rule_first_repeated f fd) (T : Txt K mg C) (FR : Fun K "first_repeating" "Rule.first_repeating" s_Rule_first_repeating fR fdR) (bR : Binds K fdR ["self"] []) (mR : Meth K C "first_repeating" fR)
    (FP : Fun K "period" "Rule.period" s_Rule_period fP fdP) (bP : Binds K fdP ["self"] []) (mP : Meth K C "period" fP) (FL : Fun K "_first_at_least" "_first_at_least" s_first_at_least fL fdL) (bL : Binds K fdL ["offsets", "distance"] []) (mL : mg "_first_at_least" = some (.ref fL)) :
    FnOk P w K mg base CX0 3 f fd ["self", "distance"] (spFrp C) := by
  have GR : FnOk P w K mg base CX0 1 fR fdR ["self"] (spFR C) := ok_fr FR T
  have GP : FnOk P w K mg base CX0 2 fP fdP ["self"] (spPer C) := ok_per FP T FR bR mR
  have GL : FnOk P w K mg base CX0 1 fL fdL ["offsets", "distance"] spFal := ok_fal FL
  refine F.ok scFrp (fun vs H Q E h => ?_) (fun cdv A outer s H vs Q E hr h => ?_)
  · obtain ⟨p, g, t, o, gs, m, d, rfl, _⟩ := h
    rfl
  · obtain ⟨p, g, t, o, gs, m, d, rfl, R, hd0, hd1, k⟩ := h
    have hr1 := hr.mono (show 1 ≤ 2 by decide)
    have hm0 : 1 ≤ m := R.okT.1
    have hm1 : m ≤ gs.length := R.okT.2
    have hp := per_bd R.okG hm0 hm1
    have hpre := pre_le R.okG (gs.length - m) (by omega)
    have eper : per gs m = pre gs gs.length - pre gs (gs.length - m) := rfl
    refine ⟨_, (pss_cons (ps_set (i := 2) scFrp.nd rfl (Or.inl rfl) (pe_meth0 (pv 0) T.cl mR GR hr1 bR .nil pass0)) (pss_cons (ps_asg (pe_callB call_divmodW (by rfl) T.divmod (by decide +kernel) (pa_cons (pe_op op_sub (pv 1) (pe_ix ix_list (pe_fld (pv 0) rfl) (pv 2) (fun _ _ => rfl))) (pa_cons (pe_meth0 (pv 0) T.cl mP GP hr bP .nil pass0) pa_nil))) (pg_tup rfl (pgs_cons (pg_name (i := 3) scFrp.nd rfl (Or.inl rfl)) (pgs_cons (pg_name (i := 4) scFrp.nd rfl (Or.inl rfl)) pgs_nil)))) (pss_cons (ps_set (i := 5) scFrp.nd rfl (Or.inl rfl) (pe_call GL hr1 rfl mL FL.kp bL .nil pass0 (pa_cons (pe_fld (pv 0) rfl) (pa_cons (pe_op op_add (pe_ix ix_list (pe_fld (pv 0) rfl) (pv 2) (fun _ _ => rfl)) (pv 4)) pa_nil)))) (pss_one (ps_ret (pe_op op_add (pv 5) (pe_op op_mul (pv 3) (pe_ix ix_tup (pe_fld (pv 0) rfl) pe_int (fun _ _ => rfl))))))))), ?_⟩
    obtain ⟨dx, hob⟩ := R.ob
    have nF : (flds g t o).lookup ("first_repeating" : Str) = none := flds_no _ _ _ (by decide +kernel) (by decide +kernel) (by decide +kernel)
    have nP : (flds g t o).lookup ("period" : Str) = none := flds_no _ _ _ (by decide +kernel) (by decide +kernel) (by decide +kernel)
    refine ⟨_, rfl, p, dx, _, rfl, hob, nF, p, g, t, o, gs, m, rfl, R, ?_⟩
    refine ⟨_, rfl, ?_⟩
    refine rdOx T R rfl ⟨_, rfl, o, _, _, _, rfl, rfl, SqL.of R.ho, at_map (offs_get gs (by omega)), _, _, rfl, rfl, ?_⟩
    refine ⟨_, rfl, p, dx, _, rfl, hob, nP, p, g, t, o, gs, .rep m, rfl, R, ?_⟩
    have hi0 : 0 ≤ d - pre gs (gs.length - m) := by omega
    refine ⟨_, _, rfl, divp_ok (by omega) (Nat.le_trans (bits_lt hi0 (by omega)) (by omega)), fun q hq => ?_⟩
    generalize hQ : (d - pre gs (gs.length - m)) / per gs m = qq
    generalize hRr : (d - pre gs (gs.length - m)) % per gs m = rr
    have eqr : per gs m * qq + rr = d - pre gs (gs.length - m) := by rw [← hQ, ← hRr]; exact Int.mul_ediv_add_emod _ _
    have hr0 : 0 ≤ rr := by rw [← hRr]; exact Int.emod_nonneg _ (by omega)
    have hr2 : rr < per gs m := by rw [← hRr]; exact Int.emod_lt_of_pos _ (by omega)
    have hq1 : 1 ≤ qq := by
      by_cases h : 1 ≤ qq
      · exact h
      · have : per gs m * qq ≤ per gs m * 0 := Int.mul_le_mul_of_nonneg_left (by omega) (by omega)
        omega
    obtain ⟨qn, rfl⟩ : ∃ qn : Nat, qq = (qn : Int) := ⟨qq.toNat, by omega⟩
    have S : Same H (upd H q (.tup [.int (qn : Int), .int rr])) := same_new hq
    have R2 := R.mono S
    refine ⟨q, _, rfl, SqT.of upd_same, rfl, _, _, rfl, _, _, rfl, rfl, ?_⟩
    obtain ⟨dx2, hob2⟩ := R2.ob
    refine rdOc T R2 rfl ?_
    refine rdOx T R2 rfl ⟨_, rfl, o, _, _, _, rfl, rfl, SqL.of R2.ho, at_map (offs_get gs (by omega)), _, rfl, _, _, rfl, rfl, ?_⟩
    refine ⟨o, offs gs, _, gs.length, rfl, R2.ho, by rw [offs_len]; omega, by rw [offsD (Nat.le_refl _)]; omega, fun j hj hdj hall => ?_⟩
    rw [offsD hj] at hdj
    have hj0 : gs.length - m ≤ j := by
      by_cases h : gs.length - m ≤ j
      · exact h
      · have := pre_mono R.okG j (gs.length - m - j) (by omega)
        rw [show j + (gs.length - m - j) = gs.length - m by omega] at this
        omega
    refine ⟨_, rfl, _, rfl, ?_⟩
    refine rdN T R2 rfl ⟨_, _, rfl, rfl, .inr ⟨by omega, by have := R.okG.1; omega⟩, _, _, rfl, rfl, ?_⟩
    have emul : (qn : Int) * per gs m = per gs m * (qn : Int) := Int.mul_comm _ _
    refine k _ _ S (.inr ⟨j + m * qn, ?_, True.intro, ?_, fun _ => ?_⟩)
    · rw [Int.natCast_add, Int.natCast_mul, Int.mul_comm (m : Int)]
    · rw [off_turn hm0 hm1 hj0 hj]
      omega
    · by_cases hj1 : j = gs.length - m
      · have e1 : qn = (qn - 1) + 1 := by omega
        have e2 : j + m * qn - 1 = (gs.length - 1) + m * (qn - 1) := by
          rw [e1, Nat.mul_succ]
          simp only [Nat.add_sub_cancel]
          omega
        have hall0 : d = pre gs (gs.length - m) + rr + per gs m * (qn : Int) := by omega
        rw [e2, off_turn hm0 hm1 (by omega) (by omega)]
        have hl := pre_mono R.okG (gs.length - 1) 1 (by omega)
        rw [show gs.length - 1 + 1 = gs.length by omega] at hl
        have e3 : ((qn - 1 : Nat) : Int) * per gs m + per gs m = per gs m * (qn : Int) := by
          rw [show ((qn - 1 : Nat) : Int) = (qn : Int) - 1 by omega, Int.sub_mul, Int.one_mul, emul]
          omega
        omega
      · have h1 := hall (j - 1) (by omega)
        rw [offsD (by omega)] at h1
        rw [show j + m * qn - 1 = (j - 1) + m * qn by omega, off_turn hm0 hm1 (by omega) (by omega)]
        omega
/-! ### first_from, attempt_at -/
/-- a distance that is answered -/
def HD (gs : List Int) (tl : Tl) (d : Int) : Prop := match tl with
  | .fin => True
  | .times b => d ≤ off gs (.times b) 1000
  | .rep _ => d < 2 ^ 200
def spFF (C : Addr) : Sp := fun vs H Q _ => ∃ (p g t o : Addr) (gs : List Int) (tl : Tl) (d : Int), vs = [.ref p, .int d] ∧ RuleAt C H p g t o gs tl ∧ HD gs tl d ∧ ∀ r H', Same H H' → FF gs tl d r → Q r H'
theorem scFF : FnScope ["self", "distance"] ["self", "distance"] (defScope s_Rule_first_from) := ⟨rfl, rfl, rfl, by decide +kernel, rfl, by decide +kernel, by decide +kernel⟩
theorem ok_ff {f C fi fL fG fW : Addr} {fd fdi fdL fdG fdW : FuncData} (F : Fun K "first_from" "Rule.first_from" s_Rule_first_from f fd) (T : Txt K mg C) (FI : Fun K "is_integer" "is_integer" s_is_integer fi fdi) (bI : Binds K fdi ["value"] []) (mI : mg "is_integer" = some (.ref fi))
    (FL : Fun K "_first_at_least" "_first_at_least" s_first_at_least fL fdL) (bL : Binds K fdL ["offsets", "distance"] []) (mL : mg "_first_at_least" = some (.ref fL))
    (GG : FnOk P w K mg base CX0 4 fG fdG ["self", "distance"] (spFg C)) (bG : Binds K fdG ["self", "distance"] []) (mG : Meth K C "_first_growing" fG)
    (GW : FnOk P w K mg base CX0 3 fW fdW ["self", "distance"] (spFrp C)) (bW : Binds K fdW ["self", "distance"] []) (mW : Meth K C "_first_repeated" fW) : FnOk P w K mg base CX0 5 f fd ["self", "distance"] (spFF C) := by
  have GI : FnOk P w K mg base CX0 1 fi fdi ["value"] spIsInt := ok_isInt FI T
  have GL : FnOk P w K mg base CX0 1 fL fdL ["offsets", "distance"] spFal := ok_fal FL
  refine F.ok scFF (fun vs H Q E h => ?_) (fun cdv A outer s H vs Q E hr h => ?_)
  · obtain ⟨p, g, t, o, gs, tl, d, rfl, _⟩ := h
    rfl
  · obtain ⟨p, g, t, o, gs, tl, d, rfl, R, hd, k⟩ := h
    have hr1 := hr.mono (show 1 ≤ 4 by decide)
    refine ⟨_, (pss_cons (ps_if (pt_not (pt_val (pe_call GI hr1 rfl mI FI.kp bI .nil pass0 (pa_cons (pv 1) pa_nil)))) (pss_one ps_never) pss_nil) (pss_cons (ps_if (pt_cmpR op_le (pv 1) (pe_ix ix_list (pe_fld (pv 0) rfl) (pe_un un_neg pe_int) (fun _ _ => rfl)) (nomark _)) (pss_one (ps_ret (pe_call GL hr1 rfl mL FL.kp bL .nil pass0 (pa_cons (pe_fld (pv 0) rfl) (pa_cons (pv 1) pa_nil))))) pss_nil) (pss_cons (ps_if (pt_cmpR op_eq (pe_ix ix_tup (pe_fld (pv 0) rfl) pe_int (fun _ _ => rfl)) pe_str (nomark _)) (pss_one (ps_ret pe_non)) pss_nil) (pss_cons (ps_if (pt_cmpR op_eq (pe_ix ix_tup (pe_fld (pv 0) rfl) pe_int (fun _ _ => rfl)) pe_str (nomark _)) (pss_one (ps_ret (pe_meth (pv 0) T.cl mG GG hr bG .nil pass0 (pa_cons (pv 1) pa_nil)))) pss_nil) (pss_one (ps_ret (pe_meth (pv 0) T.cl mW GW (hr.mono (by decide)) bW .nil pass0 (pa_cons (pv 1) pa_nil)))))))), ?_⟩
    obtain ⟨dx, hob⟩ := R.ob
    refine ⟨_, rfl, d, rfl, true, rfl, iteF ?_⟩
    refine ⟨_, rfl, ?_⟩
    refine rdLastO T R rfl ⟨_, _, rfl, rfl, _, rfl, ?_⟩
    by_cases hle : d ≤ pre gs gs.length
    · refine iteTb (decide_eq_true hle) ?_
      refine rdOc T R rfl ⟨_, rfl, o, offs gs, d, gs.length, rfl, R.ho, by rw [offs_len]; omega, by rw [offsD (Nat.le_refl _)]; exact hle, fun n hn hdn hall => ?_⟩
      rw [offsD hn] at hdn
      refine k _ H (Same.refl H) (.inr ⟨n, rfl, AttOk.low R.okG hn, by rw [off_low hn]; exact hdn, fun h0 => ?_⟩)
      have := hall (n - 1) (by omega)
      rw [offsD (by omega)] at this
      rw [off_low (by omega)]
      exact this
    · refine iteFb (decide_eq_false hle) ?_
      refine rdIs T R rfl ?_
      cases tl with
      | fin =>
        refine iteTb wEE ?_
        exact k _ H (Same.refl H) (.inl ⟨rfl, rfl, by omega⟩)
      | times b =>
        refine iteFb wTE ?_
        refine rdIs T R rfl ?_
        refine iteTb wTT ?_
        exact ⟨_, rfl, p, dx, _, rfl, hob, flds_no _ _ _ (by decide +kernel) (by decide +kernel) (by decide +kernel), _, rfl, p, g, t, o, gs, b, d, rfl, R, by omega, hd, k⟩
      | rep m =>
        refine iteFb wRE ?_
        refine rdIs T R rfl ?_
        refine iteFb wRT ?_
        exact ⟨_, rfl, p, dx, _, rfl, hob, flds_no _ _ _ (by decide +kernel) (by decide +kernel) (by decide +kernel), _, rfl, p, g, t, o, gs, m, d, rfl, R, by omega, hd, k⟩
def spAA (C : Addr) : Sp := fun vs H Q _ => ∃ (p g t o : Addr) (gs : List Int) (tl : Tl) (d : Int), vs = [.ref p, .int d] ∧ RuleAt C H p g t o gs tl ∧ HD gs tl d ∧ ∀ r H', Same H H' → AA gs tl d r → Q r H'
theorem scAA : FnScope ["self", "distance", "attempt"] ["self", "distance"] (defScope s_Rule_attempt_at) := ⟨rfl, rfl, rfl, by decide +kernel, rfl, by decide +kernel, by decide +kernel⟩
theorem ok_aa {f C fF fO : Addr} {fd fdF fdO : FuncData} (F : Fun K "attempt_at" "Rule.attempt_at" s_Rule_attempt_at f fd) (T : Txt K mg C) (GF : FnOk P w K mg base CX0 5 fF fdF ["self", "distance"] (spFF C)) (bF : Binds K fdF ["self", "distance"] []) (mF : Meth K C "first_from" fF)
    (GO : FnOk P w K mg base CX0 3 fO fdO ["self", "attempt"] (spOff C)) (bO : Binds K fdO ["self", "attempt"] []) (mO : Meth K C "_offset_of" fO) : FnOk P w K mg base CX0 6 f fd ["self", "distance"] (spAA C) := by
  refine F.ok scAA (fun vs H Q E h => ?_) (fun cdv A outer s H vs Q E hr h => ?_)
  · obtain ⟨p, g, t, o, gs, tl, d, rfl, _⟩ := h
    rfl
  · obtain ⟨p, g, t, o, gs, tl, d, rfl, R, hd, k⟩ := h
    refine ⟨_, (pss_cons (ps_set (i := 2) scAA.nd rfl (Or.inl rfl) (pe_meth (pv 0) T.cl mF GF hr bF .nil pass0 (pa_cons (pv 1) pa_nil))) (pss_cons (ps_if (PW.pt (pw_or (pt_cmpR op_isN (pv 2) pe_non (nomark _)) (pw_or1 (pt_cmpR op_ne (pe_meth (pv 0) T.cl mO GO (hr.mono (by decide)) bO .nil pass0 (pa_cons (pv 2) pa_nil)) (pv 1) (nomark _))))) (pss_one (ps_ret pe_non)) pss_nil) (pss_one (ps_ret (pv 2))))), ?_⟩
    obtain ⟨dx, hob⟩ := R.ob
    refine ⟨_, rfl, p, dx, _, rfl, hob, flds_no _ _ _ (by decide +kernel) (by decide +kernel) (by decide +kernel), _, rfl, p, g, t, o, gs, tl, d, rfl, R, hd, fun r H1 S1 hf => ?_⟩
    refine ⟨_, rfl, rfl, _, rfl, ?_⟩
    rcases id hf with ⟨rfl, _⟩ | ⟨n, rfl, hn, _⟩
    · refine iteTb (decide_eq_true rfl) ?_
      refine iteT ?_
      exact k _ H1 S1 ⟨_, hf, .inr ⟨(fun n e => nomatch e), rfl⟩⟩
    · refine iteFb (decide_eq_false fun e => nomatch e) ?_
      obtain ⟨dx1, hob1⟩ := (R.mono S1).ob
      refine ⟨_, rfl, p, dx1, _, rfl, hob1, flds_no _ _ _ (by decide +kernel) (by decide +kernel) (by decide +kernel), _, rfl, p, g, t, o, gs, tl, n, rfl, R.mono S1, hn, fun H2 S2 => ?_⟩
      refine ⟨_, rfl, rfl, _, rfl, ?_⟩
      by_cases e : off gs tl n = d
      · refine iteFb (by rw [e]; show (!decide (V.int d = V.int d)) = false; rw [decide_eq_true rfl]; rfl) ?_
        exact ⟨_, rfl, k _ H2 (S1.trans S2) ⟨_, hf, .inl ⟨n, rfl, e, rfl⟩⟩⟩
      · refine iteTb (by show (!decide (V.int _ = V.int d)) = true; rw [decide_eq_false fun z => e (V.int.inj z)]; rfl) ?_
        exact k _ H2 (S1.trans S2) ⟨_, hf, .inr ⟨fun m em => by have := V.int.inj em; rw [← show n = m by omega]; exact e, rfl⟩⟩
end
end RS
namespace RS
open PySem L2
section
variable {P : Program} {w : World} {K : PySem.W.Frag} {mg : Str → Option Value} {base : Heap}
/-! ### check_client, Scene.attempt_in: accepted -/
def spCkCA : Sp := fun vs H Q _ => ∃ k m : Nat, vs = [.int (k : Int), .int (m : Int)] ∧ k < m ∧ Q .non H
theorem scCkCA : FnScope ["client", "many"] ["client", "many"] (defScope s_check_client) := ⟨rfl, rfl, rfl, by decide +kernel, rfl, by decide +kernel, by decide +kernel⟩
theorem ok_ckCA {f C fI : Addr} {fd fdI : FuncData} (F : Fun K "check_client" "check_client" s_check_client f fd) (T : Txt K mg C)
    (GI : FnOk P w K mg base CX0 1 fI fdI ["value"] spIsInt) (bI : Binds K fdI ["value"] []) (mI : mg "is_integer" = some (.ref fI)) (kI : PySem.W.keepIn K (.ref fI) = true) : FnOk P w K mg base CX0 2 f fd ["client", "many"] spCkCA := by
  refine F.ok scCkCA (fun vs H Q E h => ?_) (fun cdv A outer s H vs Q E hr h => ?_)
  · obtain ⟨k, m, rfl, _⟩ := h
    rfl
  · obtain ⟨j, m, rfl, hj, k⟩ := h
    refine ⟨_, (pss_one (ps_if (PW.pt (pw_or (pt_not (pt_val (pe_call GI hr rfl mI kI bI .nil pass0 (pa_cons (pv 0) pa_nil)))) (pw_or1 (pt_not (pt_chain op_le op_lt pe_int (pv 0) (pv 1)))))) (pss_one ps_never) pss_nil)), ?_⟩
    refine ⟨_, rfl, _, rfl, true, rfl, iteF ?_⟩
    refine ⟨_, rfl, _, _, rfl, rfl, _, rfl, iteTb (decide_eq_true (by omega)) ⟨_, rfl, _, _, rfl, rfl, _, rfl, iteFb ?_ k⟩⟩
    rw [decide_eq_true (by omega)]
    rfl
def spAinA (C CS : Addr) : Sp := fun vs H Q _ => ∃ (a p r g t o s wl : Addr) (gs : List Int) (tl : Tl) (bs : List Int) (rs : List V) (ws : List (Int × Int)) (n : Int) (k : Nat) (i : Int), vs = [.ref p, .int (k : Int), .int i] ∧ SceneAt C CS a H p r g t o s wl gs tl bs rs ws n ∧ k < bs.length ∧ HD gs tl (i - bs.getD k 0) ∧
  ∀ v H', Same H H' → AA gs tl (i - bs.getD k 0) v → Q v H'
theorem scAinA : FnScope ["self", "client", "slot"] ["self", "client", "slot"] (defScope s_Scene_attempt_in) := ⟨rfl, rfl, rfl, by decide +kernel, rfl, by decide +kernel, by decide +kernel⟩
theorem ok_ainA {f C CS fA fC fS : Addr} {fd fdA fdC fdS : FuncData} (F : Fun K "attempt_in" "Scene.attempt_in" s_Scene_attempt_in f fd) (T : Txt K mg C) (TS : TxtS K mg CS)
    (GA : FnOk P w K mg base CX0 6 fA fdA ["self", "distance"] (spAA C)) (bA : Binds K fdA ["self", "distance"] []) (mA : Meth K C "attempt_at" fA)
    (GC : FnOk P w K mg base CX0 2 fC fdC ["client", "many"] spCkCA) (bC : Binds K fdC ["client", "many"] []) (mC : mg "check_client" = some (.ref fC)) (kC : PySem.W.keepIn K (.ref fC) = true)
    (GS : FnOk P w K mg base CX0 2 fS fdS ["slot"] spCkSA) (bS : Binds K fdS ["slot"] []) (mS : mg "check_slot" = some (.ref fS)) (kS : PySem.W.keepIn K (.ref fS) = true) : FnOk P w K mg base CX0 7 f fd ["self", "client", "slot"] (spAinA C CS) := by
  refine F.ok scAinA (fun vs H Q E h => ?_) (fun cdv A outer s H vs Q E hr h => ?_)
  · obtain ⟨a, p, r, g, t, o, s, wl, gs, tl, bs, rs, ws, n, k, i, rfl, _⟩ := h
    rfl
  · obtain ⟨a, p, r, g, t, o, sl, wl, gs, tl, bs, rs, ws, n, j, i, rfl, S, hj, hd, k⟩ := h
    have hr2 := hr.mono (show 2 ≤ 6 by decide)
    refine ⟨_, (pss_cons (ps_expr (pe_call GC hr2 rfl mC kC bC .nil pass0 (pa_cons (pv 1) (pa_cons (pe_callB call_len_seq (by rfl) T.len (by decide +kernel) (pa_cons (pe_fld (pv 0) rfl) pa_nil)) pa_nil)))) (pss_cons (ps_expr (pe_call GS hr2 rfl mS kS bS .nil pass0 (pa_cons (pv 2) pa_nil))) (pss_one (ps_ret (pe_meth (pe_fld (pv 0) rfl) T.cl mA GA hr bA .nil pass0 (pa_cons (pe_op op_sub (pv 2) (pe_ix ix_list (pe_fld (pv 0) rfl) (pv 1) (fun _ _ => rfl))) pa_nil)))))), ?_⟩
    obtain ⟨dx, hob⟩ := S.ob
    obtain ⟨dxr, hobr⟩ := S.R.ob
    refine ⟨_, rfl, _, rfl, p, CS, dx, _, _, rfl, hob, TS.cl, TS.nS, sflds_s _ _ _ _, sl, _, rfl, .inl (SqL.of S.hs), j, bs.length, by rw [List.length_map]; rfl, hj, ?_⟩
    refine ⟨_, rfl, i, rfl, ?_⟩
    refine ⟨_, rfl, p, CS, dx, _, _, rfl, hob, TS.cl, TS.nR, sflds_r _ _ _ _, r, dxr, _, rfl, hobr, flds_no _ _ _ (by decide +kernel) (by decide +kernel) (by decide +kernel), _, rfl, _, rfl, p, CS, dx, _, _, rfl, hob, TS.cl, TS.nS, sflds_s _ _ _ _, _, rfl, sl, _, _, _, rfl, rfl, SqL.of S.hs, at_map (getD_get hj), _, _, rfl, rfl, ?_⟩
    exact ⟨r, g, t, o, gs, tl, _, rfl, S.R, hd, fun v H' S' aa => k v H' S' aa⟩
end
end RS
namespace RS
open PySem L2
/-! ### what a run says: each client once, its own start, its slots are near -/
section
variable {gs : List Int} {tl : Tl} {bs : List Int} {ws : List (Int × Int)} {ℓ : Int} {S : List (Int × Nat)} (okG : GapsOk gs) (okT : TlOk gs.length tl)
theorem run_once (h : RunS gs tl bs ws ℓ S) {t u : Int} {c : Nat} (h1 : (t, c) ∈ S) (h2 : (u, c) ∈ S) : t = u := by
  rcases Int.lt_trichotomy t u with z | z | z
  · exact absurd ⟨t, z, h1⟩ ((h.is u c).mp h2).new
  · exact z
  · exact absurd ⟨u, z, h2⟩ ((h.is t c).mp h1).new
theorem run_nodup (h : RunS gs tl bs ws ℓ S) : (S.map Prod.snd).Nodup :=
  List.pairwise_map.mpr (h.asc.imp_of_mem fun {p q} hp hq lt e => by
    have := run_once h (t := p.1) (u := q.1) (c := p.2) hp (by rw [e]; exact hq)
    omega)
theorem run_uniq (h : RunS gs tl bs ws ℓ S) {t : Int} {c : Nat} (h1 : (t, c) ∈ S) : bs.count (bs.getD c 0) = 1 := Classical.byContradiction fun z => by
  have x := (h.is t c).mp h1
  obtain ⟨c', a, b, d⟩ := twin_of x.lt z
  obtain ⟨u, hu, hs⟩ := x.one c' a b (by rw [d]; exact x.att)
  have y := (h.is u c').mp hs
  obtain ⟨v, hv, hs2⟩ := y.one c x.lt (Ne.symm b) (by rw [← d]; exact y.att)
  exact x.new ⟨v, by omega, hs2⟩
/-- what is served in front of a slot is right there -/
theorem RunS.cut (h : RunS gs tl bs ws ℓ S) (F : Int) : GoodS gs tl bs ws ℓ (S.filter fun p => decide (p.1 < F)) F := by
  have m : ∀ t c, (t, c) ∈ S.filter (fun p => decide (p.1 < F)) ↔ (t, c) ∈ S ∧ t < F := fun t c => by rw [List.mem_filter, decide_eq_true_iff]
  refine ⟨h.asc.filter _, fun p hp => ((m p.1 p.2).mp hp).2, fun t c ht => ?_⟩
  rw [m]
  have e : Can gs tl bs ws ℓ S t c ↔ Can gs tl bs ws ℓ (S.filter fun p => decide (p.1 < F)) t c := Can.iff fun u c' hu => by
    rw [m]
    exact ⟨fun z => ⟨z, by omega⟩, fun z => z.1⟩
  rw [← e, ← h.is]
  exact ⟨fun z => z.1, fun z => ⟨z, ht⟩⟩
include okG okT
theorem run_rep {m : Nat} (e : tl = .rep m) (h : RunS gs tl bs ws ℓ S) {T0 : Int} (hb : ∀ c, c < bs.length → bs.getD c 0 + pre gs (gs.length - m) ≤ T0) (hw : ∀ w ∈ ws, w.2 ≤ T0) (hℓ : 1 ≤ ℓ) : ∀ (i : Nat) (p : Int × Nat), S[i]? = some p → p.1 < T0 + ((i + 1 : Nat) : Int) * (per gs m + ℓ) := by
  subst e
  have h1 : 1 ≤ m := okT.1
  have h2 : m ≤ gs.length := okT.2
  have hp := per_bd okG h1 h2
  have key : ∀ (u : Int) (t : Int) (c : Nat), (t, c) ∈ S → T0 ≤ u → (∀ q ∈ S, q.1 < t → q.1 + ℓ ≤ u) → t < u + per gs m := by
    intro u t c hc hu hq
    refine Classical.byContradiction fun z => ?_
    have x := (h.is t c).mp hc
    have at_ : ∀ c', c' < bs.length → (Att gs (.rep m) (bs.getD c' 0) (t - per gs m) ↔ Att gs (.rep m) (bs.getD c' 0) t) := fun c' hc' => by
      have := hb c' hc'
      rw [res_att okG okT (by omega), res_att okG okT (by omega), Int.sub_emod_right]
    have y : Can gs (.rep m) bs ws ℓ S (t - per gs m) c := by
      refine ⟨x.lt, (at_ c x.lt).mpr x.att, fun ⟨v, a, b⟩ => x.new ⟨v, by omega, b⟩, fun ⟨w, a, b, d⟩ => by have := hw w a; omega, fun ⟨q, a, b, d⟩ => by have := hq q a (by omega); omega, fun c' a b d => ?_⟩
      obtain ⟨v, hv, hs⟩ := x.one c' a b ((at_ c' a).mp d)
      exact ⟨v, by have := hq (v, c') hs hv; simp only at this; omega, hs⟩
    have := run_once h hc ((h.is _ _).mpr y)
    omega
  intro i
  induction i with
  | zero =>
    intro p hp0
    have hm := List.mem_of_getElem? hp0
    have := key T0 p.1 p.2 hm (Int.le_refl _) (fun q hq lt => by
      obtain ⟨j, hj⟩ := List.mem_iff_getElem?.mp hq
      exfalso
      rcases Nat.eq_zero_or_pos j with z | z
      · subst z
        rw [hp0] at hj
        cases hj
        omega
      · have hjl := (List.getElem?_eq_some_iff.mp hj).1
        have h0 := (List.getElem?_eq_some_iff.mp hp0).1
        have := List.pairwise_iff_getElem.mp h.asc 0 j h0 hjl z
        rw [(List.getElem?_eq_some_iff.mp hp0).2, (List.getElem?_eq_some_iff.mp hj).2] at this
        omega)
    show p.1 < T0 + 1 * (per gs m + ℓ)
    omega
  | succ i ih =>
    intro p hp0
    have hm := List.mem_of_getElem? hp0
    have hil := (List.getElem?_eq_some_iff.mp hp0).1
    have hi : S[i]? = some (S[i]'(by omega)) := List.getElem?_eq_getElem _
    have ihi := ih _ hi
    have := key (max T0 ((S[i]'(by omega)).1 + ℓ)) p.1 p.2 hm (by omega) (fun q hq lt => by
      obtain ⟨j, hj⟩ := List.mem_iff_getElem?.mp hq
      have hjl := (List.getElem?_eq_some_iff.mp hj).1
      have ej := (List.getElem?_eq_some_iff.mp hj).2
      have ep := (List.getElem?_eq_some_iff.mp hp0).2
      have hji : j ≤ i := by
        refine Nat.le_of_not_lt fun z => ?_
        rcases Nat.lt_or_ge (i + 1) j with y | y
        · have := List.pairwise_iff_getElem.mp h.asc (i + 1) j hil hjl y
          rw [ep, ej] at this
          omega
        · have : j = i + 1 := by omega
          subst this
          rw [hp0] at hj
          cases hj
          omega
      rcases Nat.lt_or_ge j i with y | y
      · have := List.pairwise_iff_getElem.mp h.asc j i hjl (by omega) y
        rw [ej] at this
        omega
      · have : j = i := by omega
        subst this
        rw [← ej]
        omega)
    have e2 : (((i + 1 + 1 : Nat) : Int)) * (per gs m + ℓ) = ((i + 1 : Nat) : Int) * (per gs m + ℓ) + (per gs m + ℓ) := by
      rw [Int.natCast_add, Int.add_mul]
      show _ + 1 * _ = _
      omega
    have hX : 0 ≤ ((i + 1 : Nat) : Int) * (per gs m + ℓ) := Int.mul_nonneg (by omega) (by omega)
    omega
/-- a service's attempt, near enough to be looked up -/
theorem run_hd (h : RunS gs tl bs ws ℓ S) {lo hi : Int} {N : Nat} (hb : ∀ c, c < bs.length → lo ≤ bs.getD c 0 ∧ bs.getD c 0 ≤ hi) (hN : hi - lo + ℓ < 2 ^ N) (hN1 : N ≤ 150) (hw : ∀ w ∈ ws, w.2 ≤ lo + 2 ^ N) (hℓ : 1 ≤ ℓ) (b40 : bs.length ≤ 40) {t : Int} {c : Nat} (hc : (t, c) ∈ S) :
    ∃ k : Nat, (tl = .fin → k ≤ gs.length) ∧ bs.getD c 0 + off gs tl k = t ∧ HD gs tl (t - bs.getD c 0) ∧ AttOk gs tl k := by
  have x := (h.is t c).mp hc
  obtain ⟨k, hf, ht⟩ := x.att
  have hbc := hb c x.lt
  have p2 : (2 : Int) ^ N ≤ 2 ^ 150 := by
    have e : (2 : Int) ^ 150 = 2 ^ N * 2 ^ (150 - N) := by rw [← Int.pow_add, show N + (150 - N) = 150 by omega]
    have a1 : (0 : Int) < 2 ^ N := Int.pow_pos (by decide)
    have a2 : (0 : Int) < 2 ^ (150 - N) := Int.pow_pos (by decide)
    have := Int.mul_le_mul (Int.le_refl (2 ^ N)) (show (1 : Int) ≤ 2 ^ (150 - N) by omega) (by decide) (by omega)
    omega
  refine ⟨k, hf, ht, ?_⟩
  · cases tl with
    | fin => exact ⟨True.intro, hf rfl⟩
    | times b =>
      have hk : k ≤ 1000 := Classical.byContradiction fun z => by
        have hg := okG.1
        have lt := off_lt okG okT (i := gs.length + N + bs.length + 2) (j := k) (by omega) (fun e => nomatch e)
        obtain ⟨u, hu⟩ := times_end okG okT hb hN hw (by omega) (h.cut t) (by omega) x.lt (run_uniq h hc)
        rw [List.mem_filter, decide_eq_true_iff] at hu
        have := run_once h hu.1 hc
        omega
      refine ⟨?_, hk⟩
      show t - bs.getD c 0 ≤ off gs (.times b) 1000
      rcases Nat.lt_or_ge k 1000 with z | z
      · have := off_lt okG okT (tl := .times b) z (fun e => nomatch e)
        omega
      · have : k = 1000 := by omega
        subst this
        omega
    | rep m =>
      have h1 : 1 ≤ m := okT.1
      have h2 : m ≤ gs.length := okT.2
      have hp := per_bd okG h1 h2
      have hpre := pre_le okG (gs.length - m) (by omega)
      obtain ⟨i, hi2⟩ := List.mem_iff_getElem?.mp hc
      have hil := (List.getElem?_eq_some_iff.mp hi2).1
      have hSl : S.length ≤ bs.length := by
        have := nd_len (m := List.range bs.length) (run_nodup h) fun c hc => by
          obtain ⟨p, hp, rfl⟩ := List.mem_map.mp hc
          exact List.mem_range.mpr ((h.is p.1 p.2).mp hp).lt
        rw [List.length_map, List.length_range] at this
        exact this
      have bd := run_rep okG okT rfl h (T0 := hi + 2 ^ N + pre gs gs.length) (fun c hc => by
        have := hb c hc
        have a := pre_mono okG (gs.length - m) m (by omega)
        rw [show gs.length - m + m = gs.length by omega] at a
        have : (0 : Int) < 2 ^ N := Int.pow_pos (by decide)
        omega) (fun w hw' => by
        have := hw w hw'
        have a := pre_mono okG 0 gs.length (by omega)
        rw [pre_zero, Nat.zero_add] at a
        omega) hℓ i _ hi2
      have m40 : ((i + 1 : Nat) : Int) * (per gs m + ℓ) ≤ 40 * (per gs m + ℓ) := Int.mul_le_mul_of_nonneg_right (by omega) (by omega)
      have hpl := (pre_le okG gs.length (Nat.le_refl _)).2
      have hg := okG.1
      have bd : t < hi + 2 ^ N + pre gs gs.length + ((i + 1 : Nat) : Int) * (per gs m + ℓ) := bd
      refine ⟨?_, True.intro⟩
      show t - bs.getD c 0 < 2 ^ 200
      have e1 : (2 : Int) ^ 150 = 1427247692705959881058285969449495136382746624 := by decide
      have e2 : (2 : Int) ^ 200 = 1606938044258990275541962092341162602522202993782792835301376 := by decide
      rw [e1] at p2
      rw [e2]
      omega
end
end RS
namespace RS
open PySem L2
/-! ### a dict of whole numbers by whole numbers -/
def kvI (ks : List Int) (lv : Int → Int) : List (Key × V) := ks.map fun r => ((Sum.inl r : Key), V.int (lv r))
theorem kvI_val (lv : Int → Int) (r : Int) : ∀ ks : List Int, valV (kvI ks lv) (Sum.inl r) = if r ∈ ks then some (.int (lv r)) else none
  | [] => rfl
  | x :: ks => by
    have ih := kvI_val lv r ks
    show valV (((Sum.inl x : Key), V.int (lv x)) :: kvI ks lv) (Sum.inl r) = _
    by_cases e : x = r
    · subst e
      rw [valV_pos rfl, if_pos (List.mem_cons_self ..)]
    · rw [valV_neg (fun z => e (Sum.inl.inj z)), ih]
      by_cases h : r ∈ ks
      · rw [if_pos h, if_pos (List.mem_cons_of_mem _ h)]
      · rw [if_neg h, if_neg (fun z => (List.mem_cons.mp z).elim (fun y => e y.symm) h)]
theorem kvI_put (ks : List Int) (lv : Int → Int) (r v : Int) : putK (kvI ks lv) (Sum.inl r) (.int v) = kvI (if r ∈ ks then ks else ks ++ [r]) (fun x => if x = r then v else lv x) := by
  unfold putK
  rw [valV_any, kvI_val]
  by_cases h : r ∈ ks
  · rw [if_pos h, if_pos (show (some (V.int (lv r))).isSome = true from rfl), if_pos h]
    unfold kvI
    rw [List.map_map]
    refine List.map_congr_left fun x _ => ?_
    show (if (Sum.inl x : Key) = Sum.inl r then ((Sum.inl x : Key), V.int v) else ((Sum.inl x : Key), V.int (lv x))) = ((Sum.inl x : Key), V.int (if x = r then v else lv x))
    by_cases e : x = r
    · rw [if_pos (by rw [e]), if_pos e]
    · rw [if_neg (fun z => e (Sum.inl.inj z)), if_neg e]
  · rw [if_neg h, if_neg (by decide), if_neg h]
    unfold kvI
    rw [List.map_append]
    congr 1
    · refine List.map_congr_left fun x hx => ?_
      show _ = ((Sum.inl x : Key), V.int (if x = r then v else lv x))
      rw [if_neg (fun (e : x = r) => h (e ▸ hx))]
    · show [((Sum.inl r : Key), V.int v)] = [((Sum.inl r : Key), V.int (if r = r then v else lv r))]
      rw [if_pos rfl]
theorem kvI_len (ks : List Int) (lv : Int → Int) : (kvI ks lv).length = ks.length := List.length_map ..
end RS
namespace L2
open PySem PySem.Spec PyProof.Rows
/-- a dict comprehension over a walk -/
theorem dc_it {J : It} {n : Nat} {G : Hp → Prop} {Y : Nat → Hp → V → Hp → Prop} (w : Walk J n G Y) {g : TG} {tt : TT} {tk tv : TE} {vs : List Nat} {σ : St} {H1 : Hp} {D : Addr} {Qd : Hp → Prop} (Pv : Nat → Hp → Prop) (h0 : Pv 0 (upd H1 D (.dK []))) (hG : ∀ i H, i ≤ n → Pv i H → G H)
    (hs : ∀ i x H H', i < n → Pv i H → Y i H x H' → g x (wipe σ vs) H' fun σ2 H2 => wipe σ2 vs = wipe σ vs ∧ tt σ2 H2 fun b H3 =>
      if b = true then tk σ2 H3 fun y H4 => tv σ2 H4 fun z H5 => ∃ kvs k, y = kV k ∧ H5 D = some (.dK kvs) ∧ kvs.length < sizeLine ∧ Pv (i + 1) (upd H5 D (.dK (putK kvs k z))) else Pv (i + 1) H3) (hd : ∀ H, Pv n H → Qd H) :
    ∃ W : Nat → Nat → Hp → Prop, (∃ m, W 0 m (upd H1 D (.dK []))) ∧ ∀ i m H, W i m H →
      (J.stop i H ∧ Qd H) ∨ (J.go i H ∧ ∃ Nx : Hp → Prop, (∀ H', Nx H' → ∃ m', m' < m ∧ W (i + 1) m' H') ∧ ∀ x H', J.yld i H x H' → g x (wipe σ vs) H' fun σ2 H2 => wipe σ2 vs = wipe σ vs ∧ tt σ2 H2 fun b H3 =>
        if b = true then tk σ2 H3 fun y H4 => tv σ2 H4 fun z H5 => ∃ kvs k, y = kV k ∧ H5 D = some (.dK kvs) ∧ kvs.length < sizeLine ∧ Nx (upd H5 D (.dK (putK kvs k z))) else Nx H3) := by
  let W : Nat → Nat → Hp → Prop := fun i m H => i + m = n ∧ Pv i H
  refine ⟨W, ⟨n, Nat.zero_add n, h0⟩, fun i m H ⟨im, p⟩ => ?_⟩
  have q := hG i H (by omega) p
  match m, im with
  | 0, im =>
    have e : i = n := im
    subst e
    exact .inl ⟨w.stops H q, hd H p⟩
  | m + 1, im => exact .inr ⟨w.goes i H (by omega) q, Pv (i + 1), fun H' p' => ⟨m, Nat.lt_succ_self m, by show i + 1 + m = n; omega, p'⟩, fun x H' y => hs i x H H' (by omega) p (w.yields i H x H' (by omega) q y)⟩
end L2
namespace RS
open PySem L2
/-! ### what a run holds -/
structure TxtR (K : PySem.W.Frag) (mg : Str → Option Value) (CR : Addr) : Prop where
  cl : Cls K CR
  n1 : NoAttr K CR "_scene"
  n2 : NoAttr K CR "_order"
  n3 : NoAttr K CR "_served"
  mgR : mg "Run" = some (.ref CR)
def rnf (sc q d : Addr) : List (Str × V) := [("_scene", .ref sc), ("_order", .ref q), ("_served", .ref d)]
theorem rnf_1 (sc q d : Addr) : (rnf sc q d).lookup ("_scene" : Str) = some (.ref sc) := lke
theorem rnf_2 (sc q d : Addr) : (rnf sc q d).lookup ("_order" : Str) = some (.ref q) := by
  unfold rnf
  rw [lkn (by decide +kernel), lke]
theorem rnf_3 (sc q d : Addr) : (rnf sc q d).lookup ("_served" : Str) = some (.ref d) := by
  unfold rnf
  rw [lkn (by decide +kernel), lkn (by decide +kernel), lke]
theorem rnf_no {sc q d : Addr} {m : Str} (h1 : m ≠ "_scene") (h2 : m ≠ "_order") (h3 : m ≠ "_served") : (rnf sc q d).lookup m = none := by
  unfold rnf
  rw [lkn h1, lkn h2, lkn h3]
  rfl
/-- who is served, as a dict -/
structure Served (S : List (Int × Nat)) (ks : List Int) (lv : Int → Int) : Prop where
  ks : ks = S.map fun p => (p.2 : Int)
  lv : ∀ p ∈ S, lv (p.2 : Int) = p.1
structure RunAt (C CS CR a : Addr) (H : Hp) (p sc r g t o sl wl q d : Addr) (D : ScD) (rs : List V) (vs : List Addr) (S : List (Int × Nat)) (ks : List Int) (lv : Int → Int) (N : Nat) : Prop where
  ob : ∃ dx, H p = some (.ins CR dx (rnf sc q d))
  scn : SceneAt C CS a H sc r g t o sl wl D.gs D.tl D.bs rs D.ws D.ln
  hq : H q = some (.lst (vs.map V.ref))
  tv : TupsI H vs (S.map fun p => (p.1, (p.2 : Int)))
  hd : H d = some (.dK (kvI ks lv))
  sv : Served S ks lv
  run : RunS D.gs D.tl D.bs D.ws D.ln S
  nr : Near D N
  na : p ≠ a ∧ q ≠ a ∧ d ≠ a ∧ a ∉ vs
theorem RunAt.kx {C CS CR a : Addr} {H H' : Hp} {p sc r g t o sl wl q d : Addr} {D : ScD} {rs : List V} {vs : List Addr} {S : List (Int × Nat)} {ks : List Int} {lv : Int → Int} {N : Nat} (R : RunAt C CS CR a H p sc r g t o sl wl q d D rs vs S ks lv N) (k : Kx a H H') : RunAt C CS CR a H' p sc r g t o sl wl q d D rs vs S ks lv N := by
  obtain ⟨n1, n2, n3, n4⟩ := R.na
  refine ⟨let ⟨dx, e⟩ := R.ob; ⟨dx, k _ _ n1 e⟩, R.scn.kx k, k _ _ n2 R.hq, ⟨R.tv.1, fun j p e => ?_⟩, k _ _ n3 R.hd, R.sv, R.run, R.nr, R.na⟩
  obtain ⟨x, e1, e2⟩ := R.tv.2 j p e
  exact ⟨x, e1, k _ _ (fun z => n4 (z ▸ List.mem_of_getElem? e1)) e2⟩
theorem tups_two {a p : Addr} {H H' : Hp} : ∀ {rs : List V} {ws : List (Int × Int)}, Tups a H rs ws → Tups p H' rs ws → Tups a H' rs ws
  | _, _, .nil, .nil => .nil
  | _, _, .cons n _ r, .cons _ e r' => .cons n e (tups_two r r')
theorem scene_two {C CS a p sc r g t o sl wl : Addr} {H H' : Hp} {gs : List Int} {tl : Tl} {bs : List Int} {rs : List V} {ws : List (Int × Int)} {n : Int} (S : SceneAt C CS a H sc r g t o sl wl gs tl bs rs ws n) (S' : SceneAt C CS p H' sc r g t o sl wl gs tl bs rs ws n) : SceneAt C CS a H' sc r g t o sl wl gs tl bs rs ws n :=
  ⟨S'.ob, S'.R, S'.hs, S'.hw, tups_two S.tp S'.tp, S.ok, S.na⟩
section
variable {P : Program} {w : World} {K : PySem.W.Frag} {mg : Str → Option Value} {base : Heap}
/-! ### Run.__init__ -/
def spRn0 (C CS CR : Addr) : Sp := fun vs H Q _ => ∃ (a p dx sc r g t o sl wl : Addr) (D : ScD) (rs : List V) (N : Nat), vs = [.ref p, .ref sc] ∧ H p = some (.ins CR dx []) ∧ SceneAt C CS a H sc r g t o sl wl D.gs D.tl D.bs rs D.ws D.ln ∧ Near D N ∧ p ≠ a ∧ (∃ u, H a = some u ∧ ∀ xs, u ≠ .tup xs) ∧
  ∀ (q d : Addr) (us : List Addr) (S : List (Int × Nat)) (ks : List Int) (lv : Int → Int) (H' : Hp), Kx p H H' → RunAt C CS CR a H' p sc r g t o sl wl q d D rs us S ks lv N → Q .non H'
def rnN : List Str := ["self", "scene", "client", "slot"]
theorem scRn0 : FnScope rnN ["self", "scene"] (defScope s_Run_ddinitdd) := ⟨rfl, rfl, rfl, by decide +kernel, rfl, by decide +kernel, by decide +kernel⟩
theorem ok_rn0 {f C CS CR fF : Addr} {fd fdF : FuncData} (F : Fun K "__init__" "Run.__init__" s_Run_ddinitdd f fd) (T : Txt K mg C) (TS : TxtS K mg CS) (TR : TxtR K mg CR) (c : C8.InsC K CS)
    (GF : FnOk P w K mg base CX0 8 fF fdF ["scene"] (spFs C CS)) (bF : Binds K fdF ["scene"] []) (mF : mg "find_services" = some (.ref fF)) (kF : PySem.W.keepIn K (.ref fF) = true) : FnOk P w K mg base CX0 9 f fd ["self", "scene"] (spRn0 C CS CR) := by
  refine F.ok scRn0 (fun vs H Q E h => ?_) (fun cdv A outer s H vs Q E hr h => ?_)
  · obtain ⟨a, p, dx, sc, r, g, t, o, sl, wl, D, rs, N, rfl, _⟩ := h
    rfl
  · obtain ⟨a, p, dx, sc, r, g, t, o, sl, wl, D, rs, N, rfl, hp, SA, nr, hpa, hau, k⟩ := h
    refine ⟨_, (pss_cons (ps_if (pt_not (pt_val (pe_callB (C8.call_isC c) (by rfl) T.isi (by decide +kernel) (pa_cons (pv 1) (pa_cons (pe_glob (v := .ref CS) rfl TS.mgS rfl) pa_nil))))) (pss_one ps_never) pss_nil) (pss_cons (ps_fld (pv 0) (pv 1) rfl) (pss_cons (ps_fld (pv 0) (pe_call GF hr rfl mF kF bF .nil pass0 (pa_cons (pv 1) pa_nil)) rfl) (pss_one (ps_fld (pv 0) (pe_dc (own := [("slot", 3), ("client", 2)]) (g := gTup K 2 (gCons (gName 3) (gCons (gName 2) gNil))) (tt := tYes) rfl scRn0.nd (pi_list (pe_fld (pv 0) rfl)) (blkOk_by (own := [("slot", 3), ("client", 2)]) (N := rnN) (sc := defScope s_Run_ddinitdd) (by decide +kernel)) (fun _ _ _ _ _ => pg_tup rfl (pgs_cons (pg_name (i := 3) scRn0.nd rfl (Or.inl rfl)) (pgs_cons (pg_name (i := 2) scRn0.nd rfl (Or.inl rfl)) pgs_nil))) (fun _ _ _ _ _ => pts_nil) (fun _ _ _ _ _ => pv 2) (fun _ _ _ _ _ => pv 3)) rfl))))), ?_⟩
    obtain ⟨dxs, obs⟩ := SA.ob
    refine ⟨_, rfl, sc, dxs, _, rfl, obs, true, rfl, iteF ?_⟩
    obtain ⟨us0, rfl, tu, pap, Sp⟩ := scene_ap SA hp
    refine ⟨_, rfl, _, rfl, p, CR, dx, _, rfl, hp, TR.cl, TR.n1, (by show 0 < 1000; decide), ?_⟩
    have kx1 : Kx p H (upd H p (.ins CR dx (putF "_scene" (.ref sc) []))) := Kx.upd
    have hp1 : (upd H p (.ins CR dx (putF "_scene" (.ref sc) []))) p = some (.ins CR dx [("_scene", .ref sc)]) := upd_same
    generalize upd H p (.ins CR dx (putF "_scene" (.ref sc) [])) = H1 at kx1 hp1
    have S1 := Sp.kx kx1
    refine ⟨_, rfl, p, sc, r, g, t, o, sl, wl, D.gs, D.tl, D.bs, _, D.ws, D.ln, N, rfl, S1, nr, fun S q vs' H2 rs2 St2 hq0 hq tv => ?_⟩
    have hp2 := St2 _ _ hp1
    refine ⟨_, rfl, p, CR, dx, _, rfl, hp2, TR.cl, TR.n2, (by show 1 < 1000; decide), ?_⟩
    have e2 : putF "_order" (V.ref q) [(("_scene" : Str), V.ref sc)] = [(("_scene" : Str), V.ref sc), ("_order", .ref q)] := by
      rw [pfn (by decide +kernel)]
      rfl
    rw [e2]
    have kx3 : Kx p H1 (upd H2 p (.ins CR dx [(("_scene" : Str), V.ref sc), ("_order", .ref q)])) := (Kx.of St2).trans Kx.upd
    have hp3 : (upd H2 p (.ins CR dx [(("_scene" : Str), V.ref sc), ("_order", .ref q)])) p = some (.ins CR dx [(("_scene" : Str), V.ref sc), ("_order", .ref q)]) := upd_same
    have nqp : q ≠ p := (ne_of_none hp1 hq0).symm
    have hq3 : (upd H2 p (.ins CR dx [(("_scene" : Str), V.ref sc), ("_order", .ref q)])) q = some (.lst (vs'.map V.ref)) := by rw [upd_ne nqp]; exact hq
    have tv3 : TupsI (upd H2 p (.ins CR dx [(("_scene" : Str), V.ref sc), ("_order", .ref q)])) vs' (S.map fun p => (p.1, (p.2 : Int))) := tv.kx fun r xs e => by rw [upd_ne (fun z => by rw [z, hp2] at e; cases e)]; exact e
    generalize upd H2 p (.ins CR dx [(("_scene" : Str), V.ref sc), ("_order", .ref q)]) = H3 at kx3 hp3 hq3 tv3
    have ls : vs'.length = S.length := by rw [tv3.1, List.length_map]
    have lS : S.length ≤ 40 := by
      have := nd_len (m := List.range D.bs.length) (run_nodup rs2) fun c hc => by
        obtain ⟨p, hp, rfl⟩ := List.mem_map.mp hc
        exact List.mem_range.mpr ((rs2.is p.1 p.2).mp hp).lt
      rw [List.length_map, List.length_range] at this
      have := S1.ok.b40
      omega
    let lv : Int → Int := fun x => ((S.find? fun p => decide ((p.2 : Int) = x)).map Prod.fst).getD 0
    have lvS : ∀ p ∈ S, lv (p.2 : Int) = p.1 := fun p hp => by
      show ((S.find? fun q => decide ((q.2 : Int) = (p.2 : Int))).map Prod.fst).getD 0 = p.1
      cases hf : S.find? fun q => decide ((q.2 : Int) = (p.2 : Int)) with
      | none =>
        have := List.find?_eq_none.mp hf p hp
        exact absurd (decide_eq_true (rfl : ((p.2 : Int)) = (p.2 : Int))) this
      | some q0 =>
        have h1 := List.find?_some hf
        have h2 := List.mem_of_find?_eq_some hf
        have h1 : (q0.2 : Int) = (p.2 : Int) := of_decide_eq_true h1
        have e : q0.2 = p.2 := by omega
        have := run_once rs2 (t := q0.1) (u := p.1) (c := p.2) (by rw [← e]; exact h2) hp
        exact this
    refine ⟨_, rfl, p, CR, dx, _, _, rfl, hp3, TR.cl, TR.n2, rfl, q, rfl, ⟨_, SqL.of hq3⟩, fun Dd hDd => dc_it walk_list (fun i H' => Same H3 H' ∧ H' Dd = some (.dK (kvI ((S.take i).map fun p => (p.2 : Int)) lv))) ⟨same_new hDd, upd_same⟩ (fun i H' _ z => SqL.of (z.1 _ _ hq3)) (fun i x H4 H5 hi z y => ?_) (fun H4 z => ?_)⟩
    · obtain ⟨S4, hD4⟩ := z
      obtain ⟨rfl, hx⟩ := y
      obtain ⟨r', pr, rfl, hpr, hr'⟩ := tv3.get hx
      rw [List.getElem?_map] at hpr
      cases hpx : S[i]? with
      | none => rw [hpx] at hpr; cases hpr
      | some p0 =>
        rw [hpx] at hpr
        cases hpr
        have hil := (List.getElem?_eq_some_iff.mp hpx).1
        refine ⟨r', _, rfl, SqT.of (S4 _ _ hr'), rfl, _, _, rfl, _, _, rfl, rfl, rfl, yes_t (iteT ⟨_, rfl, _, rfl, _, Sum.inl (p0.2 : Int), rfl, hD4, ?_, fun b u e => by rw [upd_ne (ne_of_none e hDd)]; exact S4 b u e, ?_⟩)⟩
        · rw [kvI_len, List.length_map, List.length_take]
          exact Nat.lt_of_le_of_lt (show _ ≤ 1000 by omega) (by decide)
        · rw [upd_same]
          have hnew : (p0.2 : Int) ∉ (S.take i).map fun p => (p.2 : Int) := fun z => by
            obtain ⟨q0, hq0, e⟩ := List.mem_map.mp z
            obtain ⟨j, hj, ej⟩ := List.mem_iff_getElem.mp hq0
            rw [List.length_take] at hj
            rw [List.getElem_take] at ej
            have hjl : j < S.length := by omega
            have h1 := List.pairwise_iff_getElem.mp rs2.asc j i hjl hil (by omega)
            rw [ej, (List.getElem?_eq_some_iff.mp hpx).2] at h1
            have e2 : q0.2 = p0.2 := by have e : (q0.2 : Int) = (p0.2 : Int) := e; omega
            have := run_once rs2 (t := q0.1) (u := p0.1) (c := p0.2) (by rw [← e2, ← ej]; exact List.getElem_mem hjl) (List.mem_of_getElem? hpx)
            omega
          have e1 : (fun x => if x = (p0.2 : Int) then p0.1 else lv x) = lv := by
            funext x
            by_cases h : x = (p0.2 : Int)
            · rw [if_pos h, h, lvS p0 (List.mem_of_getElem? hpx)]
            · rw [if_neg h]
          show some (HO.dK (putK (kvI ((S.take i).map fun p => (p.2 : Int)) lv) (Sum.inl (p0.2 : Int)) (.int p0.1))) = _
          rw [kvI_put, if_neg hnew, e1, List.take_add_one, hpx, List.map_append]
          rfl
    obtain ⟨S4, hD4⟩ := z
    rw [List.length_map, ls, List.take_length] at hD4
    refine ⟨_, rfl, p, CR, dx, _, rfl, S4 _ _ hp3, TR.cl, TR.n3, (by show 2 < 1000; decide), ?_⟩
    have e3 : putF "_served" (V.ref Dd) [(("_scene" : Str), V.ref sc), ("_order", .ref q)] = rnf sc q Dd := by
      rw [pfn (by decide +kernel), pfn (by decide +kernel)]
      rfl
    rw [e3]
    have kx5 : Kx p H3 (upd H4 p (.ins CR dx (rnf sc q Dd))) := (Kx.of S4).trans Kx.upd
    have nDp : Dd ≠ p := (ne_of_none hp3 hDd).symm
    have kxA : Kx p H (upd H4 p (.ins CR dx (rnf sc q Dd))) := (kx1.trans kx3).trans kx5
    obtain ⟨ua, hua, hut⟩ := hau
    have ha1 := kx1 _ _ (Ne.symm hpa) hua
    have ha3 := kx3 _ _ (Ne.symm hpa) ha1
    refine k q Dd vs' S (S.map fun p => (p.2 : Int)) lv _ kxA ⟨⟨dx, upd_same⟩, scene_two SA (Sp.kx kxA), kx5 _ _ nqp hq3, tv3.kx fun r xs e => kx5 r _ (fun z => by rw [z, hp3] at e; cases e) e, by rw [upd_ne nDp]; exact hD4, ⟨rfl, lvS⟩, rs2, nr, hpa, fun z => ?_, fun z => ?_, fun z => ?_⟩
    · rw [z, ha1] at hq0
      cases hq0
    · rw [z, ha3] at hDd
      cases hDd
    · obtain ⟨j, hj⟩ := List.mem_iff_getElem?.mp z
      have hl := (List.getElem?_eq_some_iff.mp hj).1
      obtain ⟨r', a1, a2⟩ := tv3.2 j _ (List.getElem?_eq_getElem (by rw [← tv3.1]; exact hl))
      rw [hj] at a1
      cases a1
      rw [ha3] at a2
      exact hut _ (Option.some.inj a2)
end
end RS
namespace RS
open PySem L2
/-! ### Run.outcome, outcomes, order -/
theorem aa_hit {gs : List Int} {tl : Tl} (okG : GapsOk gs) (okT : TlOk gs.length tl) {k : Nat} (hk : AttOk gs tl k) {d : Int} (hd : off gs tl k = d) {v : V} (h : AA gs tl d v) : v = .int (k : Int) := by
  obtain ⟨a, hf, h2⟩ := h
  have hk2 : FF gs tl d (.int (k : Int)) := .inr ⟨k, rfl, hk, by omega, fun h0 => by
    have := off_lt okG okT (i := k - 1) (j := k) (by omega) (fun e => hk.fin e)
    omega⟩
  have ea := FF_one okG okT hf hk2
  subst ea
  rcases h2 with ⟨n, e1, e2, rfl⟩ | ⟨h3, _⟩
  · rfl
  · exact absurd hd (h3 k rfl)
inductive Oc
  | served (k : Nat) (t : Int)
  | ended
  | never
  deriving DecidableEq
def Oc.vs : Oc → List V
  | .served k t => [.str "served", .int (k : Int), .int t]
  | .ended => [.str "ended"]
  | .never => [.str "never"]
/-- what becomes of a client -/
def IsOc (D : ScD) (S : List (Int × Nat)) (c : Nat) : Oc → Prop
  | .served k t => (t, c) ∈ S ∧ D.bs.getD c 0 + off D.gs D.tl k = t ∧ AttOk D.gs D.tl k
  | .ended => (∀ t, (t, c) ∉ S) ∧ D.tl = .fin
  | .never => (∀ t, (t, c) ∉ S) ∧ D.tl ≠ .fin
structure OcsAt (H : Hp) (us : List Addr) (D : ScD) (S : List (Int × Nat)) (ocs : List Oc) : Prop where
  ul : us.length = ocs.length
  at_ : ∀ (j : Nat) (x : Oc), ocs[j]? = some x → IsOc D S j x ∧ ∃ r, us[j]? = some r ∧ H r = some (.tup x.vs)
theorem OcsAt.same {H H' : Hp} {us : List Addr} {D : ScD} {S : List (Int × Nat)} {ocs : List Oc} (h : OcsAt H us D S ocs) (s : Same H H') : OcsAt H' us D S ocs := ⟨h.ul, fun j x e => let ⟨a, r, b, c⟩ := h.at_ j x e; ⟨a, r, b, s _ _ c⟩⟩
section
variable {P : Program} {w : World} {K : PySem.W.Frag} {mg : Str → Option Value} {base : Heap}
def spOc (C CS CR : Addr) : Sp := fun vs H Q _ => ∃ (a p sc r g t o sl wl q d : Addr) (D : ScD) (rs : List V) (us : List Addr) (S : List (Int × Nat)) (ks : List Int) (lv : Int → Int) (N : Nat) (c : Nat), vs = [.ref p, .int (c : Int)] ∧ RunAt C CS CR a H p sc r g t o sl wl q d D rs us S ks lv N ∧ N ≤ 150 ∧ c < D.bs.length ∧
  ∀ x oc H', Same H H' → H x = none → H' x = some (.tup oc.vs) → IsOc D S c oc → Q (.ref x) H'
theorem scOc : FnScope ["self", "client", "slot"] ["self", "client"] (defScope s_Run_outcome) := ⟨rfl, rfl, rfl, by decide +kernel, rfl, by decide +kernel, by decide +kernel⟩
theorem ok_oc {f C CS CR fC fS fI fR fA : Addr} {fd fdC fdS fdI fdR fdA : FuncData} (F : Fun K "outcome" "Run.outcome" s_Run_outcome f fd) (T : Txt K mg C) (TS : TxtS K mg CS) (TR : TxtR K mg CR)
    (GC : FnOk P w K mg base CX0 2 fC fdC ["client", "many"] spCkCA) (bC : Binds K fdC ["client", "many"] []) (mC : mg "check_client" = some (.ref fC)) (kC : PySem.W.keepIn K (.ref fC) = true)
    (GS : FnOk P w K mg base CX0 1 fS fdS ["self"] (spSts C CS)) (bS : Binds K fdS ["self"] []) (mS : Meth K CS "starts" fS) (GI : FnOk P w K mg base CX0 7 fI fdI ["self", "client", "slot"] (spAinA C CS)) (bI : Binds K fdI ["self", "client", "slot"] []) (mI : Meth K CS "attempt_in" fI)
    (GR : FnOk P w K mg base CX0 5 fR fdR ["self"] (spRul C CS)) (bR : Binds K fdR ["self"] []) (mR : Meth K CS "rule" fR) (GA : FnOk P w K mg base CX0 1 fA fdA ["self"] (spAtt C)) (bA : Binds K fdA ["self"] []) (mA : Meth K C "attempts" fA) : FnOk P w K mg base CX0 8 f fd ["self", "client"] (spOc C CS CR) := by
  refine F.ok scOc (fun vs H Q E h => ?_) (fun cdv A outer s H vs Q E hr h => ?_)
  · obtain ⟨a, p, sc, r, g, t, o, sl, wl, q, d, D, rs, us, S, ks, lv, N, c, rfl, _⟩ := h
    rfl
  · obtain ⟨a, p, sc, r, g, t, o, sl, wl, q, d, D, rs, us, S, ks, lv, N, c, rfl, Ru, hN, hc, k⟩ := h
    have hr1 := hr.mono (show 1 ≤ 7 by decide)
    have hr2 := hr.mono (show 2 ≤ 7 by decide)
    have hr5 := hr.mono (show 5 ≤ 7 by decide)
    have hu := hu_of hr
    refine ⟨_, (pss_cons (ps_expr (pe_call GC hr2 rfl mC kC bC .nil pass0 (pa_cons (pv 1) (pa_cons (pe_callB call_len_seq (by rfl) T.len (by decide +kernel) (pa_cons (pe_meth0 (pe_fld (pv 0) rfl) TS.cl mS GS hr1 bS .nil pass0) pa_nil)) pa_nil)))) (pss_cons (ps_if (pt_cmp (pc_din hu (pv 1) (pe_fld (pv 0) rfl))) (pss_cons (ps_set (i := 2) scOc.nd rfl (Or.inl rfl) (pe_dget hu (pe_fld (pv 0) rfl) (pv 1) (fun _ _ => rfl))) (pss_one (ps_ret (pe_tup (pa_cons pe_str (pa_cons (pe_meth (pe_fld (pv 0) rfl) TS.cl mI GI hr bI .nil pass0 (pa_cons (pv 1) (pa_cons (pv 2) pa_nil))) (pa_cons (pv 2) pa_nil))))))) pss_nil) (pss_cons (ps_if (pt_cmpR op_notN (pe_meth0 (pe_meth0 (pe_fld (pv 0) rfl) TS.cl mR GR hr5 bR .nil pass0) T.cl mA GA hr1 bA .nil pass0) pe_non (nomark _)) (pss_one (ps_ret (pe_tup (pa_cons pe_str pa_nil)))) pss_nil) (pss_one (ps_ret (pe_tup (pa_cons pe_str pa_nil))))))), ?_⟩
    obtain ⟨dx, hob⟩ := Ru.ob
    obtain ⟨dxs, obs⟩ := Ru.scn.ob
    have no : ∀ {m : Str}, ¬ m = "_length" → ¬ m = "_outages" → ¬ m = "_starts" → ¬ m = "_rule" → (sflds r sl wl D.ln).lookup m = none := fun a b d e => sflds_no _ _ _ _ a b d e
    refine ⟨_, rfl, _, rfl, p, CR, dx, _, _, rfl, hob, TR.cl, TR.n1, rnf_1 _ _ _, sc, dxs, _, rfl, obs, no (by decide +kernel) (by decide +kernel) (by decide +kernel) (by decide +kernel), a, sc, r, g, t, o, sl, wl, D.gs, D.tl, D.bs, _, D.ws, D.ln, rfl, Ru.scn, fun l hl => ?_⟩
    have S1 := same_new (o := .lst (D.bs.map V.int)) hl
    have hl1 : (upd H l (.lst (D.bs.map V.int))) l = some (.lst (D.bs.map V.int)) := upd_same
    have R1 := Ru.kx (Kx.of S1)
    generalize upd H l (.lst (D.bs.map V.int)) = H1 at S1 hl1 R1
    refine ⟨l, _, rfl, .inl (SqL.of hl1), c, D.bs.length, by rw [List.length_map]; rfl, hc, ?_⟩
    obtain ⟨dx1, hob1⟩ := R1.ob
    obtain ⟨dxs1, obs1⟩ := R1.scn.ob
    refine ⟨_, rfl, _, rfl, p, CR, dx1, _, _, rfl, hob1, TR.cl, TR.n3, rnf_3 _ _ _, d, _, rfl, DGet.k (k := Sum.inl (c : Int)) R1.hd, ?_⟩
    rw [kvI_val]
    have mem : (c : Int) ∈ ks ↔ ∃ t, (t, c) ∈ S := by
      rw [Ru.sv.ks, List.mem_map]
      constructor
      · rintro ⟨p0, h1, h2⟩
        have e : p0.2 = c := by have h2 : (p0.2 : Int) = (c : Int) := h2; omega
        exact ⟨p0.1, by rw [← e]; exact h1⟩
      · rintro ⟨t, h⟩
        exact ⟨(t, c), h, rfl⟩
    by_cases hm : (c : Int) ∈ ks
    · rw [if_pos hm]
      refine ⟨_, rfl, iteT ?_⟩
      obtain ⟨tt, ht⟩ := mem.mp hm
      have elv : lv (c : Int) = tt := Ru.sv.lv (tt, c) ht
      obtain ⟨lo, hi, hb, hN2, hw⟩ := Ru.nr.b
      obtain ⟨kk, h1, h2, h3, h4⟩ := run_hd Ru.scn.R.okG Ru.scn.R.okT Ru.run hb hN2 hN hw Ru.scn.ok.n1 Ru.scn.ok.b40 ht
      refine ⟨_, rfl, p, CR, dx1, _, _, rfl, hob1, TR.cl, TR.n3, rnf_3 _ _ _, _, rfl, d, .int (lv (c : Int)), rfl, ?_, ?_⟩
      · have := DGet.k (k := Sum.inl (c : Int)) R1.hd
        rw [kvI_val, if_pos hm] at this
        exact this
      rw [elv]
      refine ⟨_, rfl, p, CR, dx1, _, _, rfl, hob1, TR.cl, TR.n1, rnf_1 _ _ _, sc, dxs1, _, rfl, obs1, no (by decide +kernel) (by decide +kernel) (by decide +kernel) (by decide +kernel), _, rfl, _, rfl, a, sc, r, g, t, o, sl, wl, D.gs, D.tl, D.bs, _, D.ws, D.ln, c, tt, rfl, R1.scn, hc, h3, fun v H2 S2 aa => ?_⟩
      have ev := aa_hit Ru.scn.R.okG Ru.scn.R.okT h4 (by omega) aa
      subst ev
      refine ⟨_, rfl, (by show 3 ≤ sizeLine; decide), fun x hx => ?_⟩
      exact k x (.served kk tt) _ ((S1.trans S2).trans (same_new hx)) ((S1.trans S2).free hx) upd_same ⟨ht, h2, h4⟩
    · rw [if_neg hm]
      refine ⟨_, rfl, iteF ?_⟩
      have nS : ∀ t, (t, c) ∉ S := fun t h => hm (mem.mpr ⟨t, h⟩)
      refine ⟨_, rfl, p, CR, dx1, _, _, rfl, hob1, TR.cl, TR.n1, rnf_1 _ _ _, sc, dxs1, _, rfl, obs1, no (by decide +kernel) (by decide +kernel) (by decide +kernel) (by decide +kernel), a, sc, r, g, t, o, sl, wl, D.gs, D.tl, D.bs, _, D.ws, D.ln, rfl, R1.scn, fun q2 g2 o2 H2 S2 hq2 R2 => ?_⟩
      obtain ⟨dxr, hobr⟩ := R2.ob
      refine ⟨q2, dxr, _, rfl, hobr, flds_no _ _ _ (by decide +kernel) (by decide +kernel) (by decide +kernel), q2, g2, t, o2, D.gs, D.tl, rfl, R2, ?_⟩
      refine ⟨rfl, _, rfl, ?_⟩
      have fin : ∀ (oc : Oc), IsOc D S c oc → ∀ x, H2 x = none → Q (.ref x) (upd H2 x (.tup oc.vs)) := fun oc h x hx => k x oc _ ((S1.trans S2).trans (same_new hx)) ((S1.trans S2).free hx) upd_same h
      cases htl : D.tl with
      | fin => exact iteTb rfl ⟨(by show 1 ≤ sizeLine; decide), fun x hx => fin .ended ⟨nS, htl⟩ x hx⟩
      | times b => exact iteFb rfl ⟨(by show 1 ≤ sizeLine; decide), fun x hx => fin .never ⟨nS, by rw [htl]; exact fun e => nomatch e⟩ x hx⟩
      | rep m => exact iteFb rfl ⟨(by show 1 ≤ sizeLine; decide), fun x hx => fin .never ⟨nS, by rw [htl]; exact fun e => nomatch e⟩ x hx⟩
end
end RS
namespace RS
open PySem L2
section
variable {P : Program} {w : World} {K : PySem.W.Frag} {mg : Str → Option Value} {base : Heap}
/-! ### outcomes -/
def spOcs (C CS CR : Addr) : Sp := fun vs H Q _ => ∃ (a p sc r g t o sl wl q d : Addr) (D : ScD) (rs : List V) (us : List Addr) (S : List (Int × Nat)) (ks : List Int) (lv : Int → Int) (N : Nat), vs = [.ref p] ∧ RunAt C CS CR a H p sc r g t o sl wl q d D rs us S ks lv N ∧ N ≤ 150 ∧
  ∀ x xs ocs H', Same H H' → H x = none → H' x = some (.lst (xs.map V.ref)) → OcsAt H' xs D S ocs → ocs.length = D.bs.length → Q (.ref x) H'
def ocN : List Str := ["self", "client"]
theorem scOcs : FnScope ocN ["self"] (defScope s_Run_outcomes) := ⟨rfl, rfl, rfl, by decide +kernel, rfl, by decide +kernel, by decide +kernel⟩
theorem ok_ocs {f C CS CR fS fO : Addr} {fd fdS fdO : FuncData} (F : Fun K "outcomes" "Run.outcomes" s_Run_outcomes f fd) (T : Txt K mg C) (TS : TxtS K mg CS) (TR : TxtR K mg CR)
    (GS : FnOk P w K mg base CX0 1 fS fdS ["self"] (spSts C CS)) (bS : Binds K fdS ["self"] []) (mS : Meth K CS "starts" fS) (GO : FnOk P w K mg base CX0 8 fO fdO ["self", "client"] (spOc C CS CR)) (bO : Binds K fdO ["self", "client"] []) (mO : Meth K CR "outcome" fO) : FnOk P w K mg base CX0 9 f fd ["self"] (spOcs C CS CR) := by
  refine F.ok scOcs (fun vs H Q E h => ?_) (fun cdv A outer s H vs Q E hr h => ?_)
  · obtain ⟨a, p, sc, r, g, t, o, sl, wl, q, d, D, rs, us, S, ks, lv, N, rfl, _⟩ := h
    rfl
  · obtain ⟨a, p, sc, r, g, t, o, sl, wl, q, d, D, rs, us, S, ks, lv, N, rfl, Ru, hN, k⟩ := h
    have hr1 := hr.mono (show 1 ≤ 8 by decide)
    refine ⟨_, (pss_one (ps_ret (pe_lc (own := [("client", 1)]) (g := gName 1) (tt := tYes) rfl scOcs.nd (pi_range1 rfl T.range (pa_cons (pe_callB call_len_seq (by rfl) T.len (by decide +kernel) (pa_cons (pe_meth0 (pe_fld (pv 0) rfl) TS.cl mS GS hr1 bS .nil pass0) pa_nil)) pa_nil)) (blkOk_by (own := [("client", 1)]) (N := ocN) (sc := (defScope s_Run_outcomes)) (by decide +kernel)) (fun _ _ _ _ _ => (pg_name (i := 1) scOcs.nd rfl (Or.inl rfl))) (fun _ _ _ _ _ => pts_nil) (fun _ _ _ _ _ => (pe_meth (pv 0) TR.cl mO GO hr bO .nil pass0 (pa_cons (pv 1) pa_nil)))))), ?_⟩
    have b40 := Ru.scn.ok.b40
    obtain ⟨dx, hob⟩ := Ru.ob
    obtain ⟨dxs, obs⟩ := Ru.scn.ob
    have no : ∀ {m : Str}, ¬ m = "_length" → ¬ m = "_outages" → ¬ m = "_starts" → ¬ m = "_rule" → (sflds r sl wl D.ln).lookup m = none := fun a b d e => sflds_no _ _ _ _ a b d e
    refine ⟨_, rfl, p, CR, dx, _, _, rfl, hob, TR.cl, TR.n1, rnf_1 _ _ _, sc, dxs, _, rfl, obs, no (by decide +kernel) (by decide +kernel) (by decide +kernel) (by decide +kernel), a, sc, r, g, t, o, sl, wl, D.gs, D.tl, D.bs, _, D.ws, D.ln, rfl, Ru.scn, fun l hl => ?_⟩
    have S1 := same_new (o := .lst (D.bs.map V.int)) hl
    have hl1 : (upd H l (.lst (D.bs.map V.int))) l = some (.lst (D.bs.map V.int)) := upd_same
    have R1 := Ru.kx (Kx.of S1)
    generalize upd H l (.lst (D.bs.map V.int)) = H1 at S1 hl1 R1
    refine ⟨l, _, rfl, .inl (SqL.of hl1), ?_⟩
    rw [List.length_map]
    refine ⟨(D.bs.length : Int), rfl, by omega, by omega, fun Dl hDl => ?_⟩
    refine lc_range (lo := 0) (n := D.bs.length) (fun i H' => ∃ xs ocs, Same H1 H' ∧ H' Dl = some (.lst (xs.map V.ref)) ∧ OcsAt H' xs D S ocs ∧ ocs.length = i) ⟨[], [], same_new hDl, upd_same, ⟨rfl, fun j x e => nomatch e⟩, rfl⟩ (fun i H2 hi z => ?_) (fun H2 z => ?_)
    · obtain ⟨xs, ocs, S2, hD2, O2, lo2⟩ := z
      have R2 := R1.kx (Kx.of S2)
      obtain ⟨dx2, hob2⟩ := R2.ob
      refine ⟨rfl, yes_t (iteT ?_)⟩
      refine ⟨_, rfl, p, dx2, _, rfl, hob2, rnf_no (by decide +kernel) (by decide +kernel) (by decide +kernel), _, rfl, a, p, sc, r, g, t, o, sl, wl, q, d, D, _, us, S, ks, lv, N, i, congrArg (fun z => [V.ref p, V.int z]) (Int.zero_add (i : Int)), R2, hN, hi, fun x oc H3 S3 hx hx3 ioc => ?_⟩
      have O3 := O2.same S3
      have nDx : x ≠ Dl := (ne_of_none hD2 hx).symm
      refine ⟨_, S3 _ _ hD2, ?_, xs ++ [x], ocs ++ [oc], same_app hDl (S2.trans S3), ?_, ⟨by rw [List.length_append, List.length_append, O3.ul]; rfl, fun j y hy => ?_⟩, by rw [List.length_append, lo2]; rfl⟩
      · rw [List.length_map, O2.ul, lo2]
        exact Nat.lt_of_le_of_lt (show _ ≤ 1000 by omega) (by decide)
      · rw [upd_same, List.map_append]
        rfl
      · by_cases hj : j < ocs.length
        · rw [List.getElem?_append_left hj] at hy
          obtain ⟨b1, r', b2, b3⟩ := O3.at_ j y hy
          exact ⟨b1, r', by rw [List.getElem?_append_left (by rw [O3.ul]; exact hj)]; exact b2, by rw [upd_ne (fun z => by rw [z, S3 _ _ hD2] at b3; cases b3)]; exact b3⟩
        · have hl := (List.getElem?_eq_some_iff.mp hy).1
          rw [List.length_append, List.length_singleton] at hl
          have ej : j = ocs.length := by omega
          subst ej
          rw [List.getElem?_append_right (Nat.le_refl _), Nat.sub_self] at hy
          cases hy
          exact ⟨by rw [lo2]; exact ioc, x, by rw [← O3.ul, List.getElem?_append_right (Nat.le_refl _), Nat.sub_self]; rfl, by rw [upd_ne nDx]; exact hx3⟩
    obtain ⟨xs, ocs, S2, hD2, O2, lo2⟩ := z
    exact k Dl xs ocs H2 (S1.trans S2) (S1.free hDl) hD2 O2 lo2
end
end RS
namespace RS
open PySem L2
/-! ### Run.active -/
/-- a client that has begun and makes an attempt in the slot or later -/
def actB (D : ScD) (S : List (Int × Nat)) (slot : Int) (c : Nat) : Bool := decide (D.bs.getD c 0 ≤ slot) && (decide (∀ p ∈ S, p.2 = c → slot ≤ p.1) && (match D.tl with | .fin => decide (slot - D.bs.getD c 0 ≤ pre D.gs D.gs.length) | _ => true))
theorem wait_in {S : List (Int × Nat)} {gs : List Int} {tl : Tl} {bs : List Int} {ws : List (Int × Int)} {ℓ : Int} (h : RunS gs tl bs ws ℓ S) {slot tt : Int} {c : Nat} (hc : (tt, c) ∈ S) : decide (∀ p ∈ S, p.2 = c → slot ≤ p.1) = decide (slot ≤ tt) := by
  rw [Bool.eq_iff_iff, decide_eq_true_iff, decide_eq_true_iff]
  refine ⟨fun z => z (tt, c) hc rfl, fun z p hp e => ?_⟩
  have := run_once h (t := p.1) (u := tt) (c := c) (by rw [← e]; exact hp) hc
  omega
theorem wait_out {S : List (Int × Nat)} {slot : Int} {c : Nat} (h : ∀ t, (t, c) ∉ S) : decide (∀ p ∈ S, p.2 = c → slot ≤ p.1) = true := decide_eq_true fun p hp e => absurd hp (by rw [← e] at h; exact h p.1)
def actL (D : ScD) (S : List (Int × Nat)) (slot : Int) : List Nat := (List.range D.bs.length).filter (actB D S slot)
section
variable {P : Program} {w : World} {K : PySem.W.Frag} {mg : Str → Option Value} {base : Heap}
def spAct (C CS CR : Addr) : Sp := fun vs H Q _ => ∃ (a p sc r g t o sl wl q d : Addr) (D : ScD) (rs : List V) (us : List Addr) (S : List (Int × Nat)) (ks : List Int) (lv : Int → Int) (N : Nat) (slot : Int), vs = [.ref p, .int slot] ∧ RunAt C CS CR a H p sc r g t o sl wl q d D rs us S ks lv N ∧
  ∀ x H', Same H H' → H x = none → H' x = some (.lst ((actL D S slot).map nV)) → Q (.ref x) H'
def acN : List Str := ["self", "slot", "rule", "endless", "active", "client", "start", "waits"]
theorem scAct : FnScope acN ["self", "slot"] (defScope s_Run_active) := ⟨rfl, rfl, rfl, by decide +kernel, rfl, by decide +kernel, by decide +kernel⟩
theorem ok_act {f C CS CR fK fS fR fA fF : Addr} {fd fdK fdS fdR fdA fdF : FuncData} (F : Fun K "active" "Run.active" s_Run_active f fd) (T : Txt K mg C) (TS : TxtS K mg CS) (TR : TxtR K mg CR)
    (GK : FnOk P w K mg base CX0 2 fK fdK ["slot"] spCkSA) (bK : Binds K fdK ["slot"] []) (mK : mg "check_slot" = some (.ref fK)) (kK : PySem.W.keepIn K (.ref fK) = true)
    (GS : FnOk P w K mg base CX0 1 fS fdS ["self"] (spSts C CS)) (bS : Binds K fdS ["self"] []) (mS : Meth K CS "starts" fS) (GR : FnOk P w K mg base CX0 5 fR fdR ["self"] (spRul C CS)) (bR : Binds K fdR ["self"] []) (mR : Meth K CS "rule" fR)
    (GA : FnOk P w K mg base CX0 1 fA fdA ["self"] (spAtt C)) (bA : Binds K fdA ["self"] []) (mA : Meth K C "attempts" fA) (GF : FnOk P w K mg base CX0 5 fF fdF ["self", "distance"] (spFF C)) (bF : Binds K fdF ["self", "distance"] []) (mF : Meth K C "first_from" fF) : FnOk P w K mg base CX0 6 f fd ["self", "slot"] (spAct C CS CR) := by
  refine F.ok scAct (fun vs H Q E h => ?_) (fun cdv A outer s H vs Q E hr h => ?_)
  · obtain ⟨a, p, sc, r, g, t, o, sl, wl, q, d, D, rs, us, S, ks, lv, N, slot, rfl, _⟩ := h
    rfl
  · obtain ⟨a, p, sc, r, g, t, o, sl, wl, q, d, D, rs, us, S, ks, lv, N, slot, rfl, Ru, k⟩ := h
    have hr1 := hr.mono (show 1 ≤ 5 by decide)
    have hr2 := hr.mono (show 2 ≤ 5 by decide)
    have hu := hu_of hr
    refine ⟨_, (pss_cons (ps_expr (pe_call GK hr2 rfl mK kK bK .nil pass0 (pa_cons (pv 1) pa_nil))) (pss_cons (ps_set (i := 2) scAct.nd rfl (Or.inl rfl) (pe_meth0 (pe_fld (pv 0) rfl) TS.cl mR GR hr bR .nil pass0)) (pss_cons (ps_set (i := 3) scAct.nd rfl (Or.inl rfl) (pe_cmpR op_isN (pe_meth0 (pv 2) T.cl mA GA hr1 bA .nil pass0) pe_non (nomark _))) (pss_cons (ps_set (i := 4) scAct.nd rfl (Or.inl rfl) (pe_lst pa_nil)) (pss_cons (ps_for PassesOwn.never rfl (pi_enum (by rfl) TS.enum (pa_cons (pe_meth0 (pe_fld (pv 0) rfl) TS.cl mS GS hr1 bS .nil pass0) pa_nil)) (pg_tup rfl (pgs_cons (pg_name (i := 5) scAct.nd rfl (Or.inl rfl)) (pgs_cons (pg_name (i := 6) scAct.nd rfl (Or.inl rfl)) pgs_nil)))
        (Evl.pss_cut (ps_set (i := 7) scAct.nd rfl (Or.inl rfl) (pe_or (pe_cmp (pc_dnotin hu (pv 5) (pe_fld (pv 0) rfl))) (pe_one (pe_cmpR op_ge (pe_dget hu (pe_fld (pv 0) rfl) (pv 5) (fun _ _ => rfl)) (pv 1) (nomark _))))) (pss_one (ps_if (PW.pt (pw_and (pt_cmpR op_le (pv 6) (pv 1) (nomark _)) (pw_and (pt_val (pv 7)) (pw_and1 (PW.pt (pw_or (pt_val (pv 3)) (pw_or1 (pt_cmpR op_notN (pe_meth (pv 2) T.cl mF GF hr bF .nil pass0 (pa_cons (pe_op op_sub (pv 1) (pv 6)) pa_nil)) pe_non (nomark _))))))))) (pss_one (ps_expr (pe_bm PySem.F.plainAttrs_list PySem.F.slot_list_append PySem.F.type_list_append mt_append (pv 4) (pa_cons (pv 5) pa_nil)))) pss_nil)))) (pss_one (ps_ret (pv 4)))))))), ?_⟩
    have b40 := Ru.scn.ok.b40
    obtain ⟨dx, hob⟩ := Ru.ob
    obtain ⟨dxs, obs⟩ := Ru.scn.ob
    have no : ∀ {m : Str}, ¬ m = "_length" → ¬ m = "_outages" → ¬ m = "_starts" → ¬ m = "_rule" → (sflds r sl wl D.ln).lookup m = none := fun a b d e => sflds_no _ _ _ _ a b d e
    refine ⟨_, rfl, slot, rfl, ?_⟩
    refine ⟨_, rfl, p, CR, dx, _, _, rfl, hob, TR.cl, TR.n1, rnf_1 _ _ _, sc, dxs, _, rfl, obs, no (by decide +kernel) (by decide +kernel) (by decide +kernel) (by decide +kernel), a, sc, r, g, t, o, sl, wl, D.gs, D.tl, D.bs, _, D.ws, D.ln, rfl, Ru.scn, fun r2 g2 o2 H1 S1 hr2' R1 => ?_⟩
    obtain ⟨dxr, hobr⟩ := R1.ob
    refine ⟨_, rfl, r2, dxr, _, rfl, hobr, flds_no _ _ _ (by decide +kernel) (by decide +kernel) (by decide +kernel), r2, g2, t, o2, D.gs, D.tl, rfl, R1, rfl, ?_⟩
    have e3 : V.bl (decide (attV D.gs D.tl = V.non)) = V.bl (match D.tl with | .fin => false | _ => true) := by cases D.tl <;> rfl
    rw [e3]
    refine ⟨(by show 0 ≤ sizeLine; decide), fun x hx => ?_⟩
    have S2 := same_new (o := .lst ([] : List V)) hx
    have hx2 : (upd H1 x (.lst ([] : List V))) x = some (.lst []) := upd_same
    have S12 := S1.trans S2
    have R2 := R1.mono S2
    generalize upd H1 x (.lst ([] : List V)) = H2 at S2 hx2 S12 R2
    have Ru2 := Ru.kx (Kx.of S12)
    obtain ⟨dx2, hob2⟩ := Ru2.ob
    obtain ⟨dxs2, obs2⟩ := Ru2.scn.ob
    refine ⟨_, rfl, p, CR, dx2, _, _, rfl, hob2, TR.cl, TR.n1, rnf_1 _ _ _, sc, dxs2, _, rfl, obs2, no (by decide +kernel) (by decide +kernel) (by decide +kernel) (by decide +kernel), a, sc, r, g, t, o, sl, wl, D.gs, D.tl, D.bs, _, D.ws, D.ln, rfl, Ru2.scn, fun l hl => ?_⟩
    have S3 := same_new (o := .lst (D.bs.map V.int)) hl
    have hl3 : (upd H2 l (.lst (D.bs.map V.int))) l = some (.lst (D.bs.map V.int)) := upd_same
    have hx3 := S3 _ _ hx2
    have S13 := S12.trans S3
    have R3 := R2.mono S3
    have Ru3 := Ru2.kx (Kx.of S3)
    have hxH : H x = none := S1.free hx
    have nlx : l ≠ x := (ne_of_none hx2 hl).symm
    generalize upd H2 l (.lst (D.bs.map V.int)) = H3 at S3 hl3 hx3 S13 R3 Ru3
    have mem : ∀ c : Nat, (c : Int) ∈ ks ↔ ∃ t, (t, c) ∈ S := fun c => by
      rw [Ru.sv.ks, List.mem_map]
      constructor
      · rintro ⟨p0, h1, h2⟩
        have e : p0.2 = c := by have h2 : (p0.2 : Int) = (c : Int) := h2; omega
        exact ⟨p0.1, by rw [← e]; exact h1⟩
      · rintro ⟨t, h⟩
        exact ⟨(t, c), h, rfl⟩
    have kxx : ∀ {H' : Hp}, Kx x H3 H' → Same H H' := fun kx b u e => kx b u (fun z => by rw [z, hxH] at e; cases e) (S13 _ _ e)
    refine ⟨l, _, rfl, SqL.of hl3, for_it (walk_enum (a := l) (xs := D.bs.map V.int)) (fun i σ H' => ∃ v5 v6 v7, σ = [some (.ref p), some (.int slot), some (.ref r2), some (.bl (match D.tl with | .fin => false | _ => true)), some (.ref x), v5, v6, v7] ∧ Kx x H3 H' ∧ H' x = some (.lst ((((List.range i).filter (actB D S slot))).map nV))) ⟨none, none, none, rfl, Kx.refl x H3, hx3⟩ (fun i σ H' _ z => ?_) ?_ ?_⟩
    · obtain ⟨_, _, _, _, kx, _⟩ := z
      exact SqL.of (kx _ _ nlx hl3)
    · rintro i y σ H4 H5 hi ⟨v5, v6, v7, rfl, kx4, hx4⟩ ⟨T2, x1, y1, rfl, hT, rfl, hx1, hy1⟩
      obtain rfl := Option.some.inj hx1
      obtain ⟨b, hb, rfl⟩ := map_of hy1
      have hil := (List.getElem?_eq_some_iff.mp hb).1
      have eb : D.bs.getD i 0 = b := by rw [List.getD_eq_getElem?_getD, hb]; rfl
      have sT := same_new (o := .tup [V.int (i : Nat), .int b]) hT
      have hT3 : (upd H4 T2 (.tup [V.int (i : Nat), .int b])) T2 = some (.tup [V.int (i : Nat), .int b]) := upd_same
      have kx5 := kx4.trans (Kx.of sT)
      have hx5 := sT _ _ hx4
      generalize upd H4 T2 (.tup [V.int (i : Nat), .int b]) = H5 at kx5 hx5 hT3
      have St5 := kxx kx5
      have Ru5 := Ru.kx (Kx.of St5)
      obtain ⟨dx5, hob5⟩ := Ru5.ob
      refine ⟨T2, _, rfl, SqT.of hT3, rfl, _, _, rfl, _, _, rfl, rfl, ?_⟩
      refine ⟨fun σ' H' => σ' = [some (.ref p), some (.int slot), some (.ref r2), some (.bl (match D.tl with | .fin => false | _ => true)), some (.ref x), some (.int (i : Nat)), some (.int b), some (.bl (decide (∀ p ∈ S, p.2 = i → slot ≤ p.1)))] ∧ H' = H5, ?_, ?_⟩
      · refine ⟨_, rfl, _, rfl, p, CR, dx5, _, _, rfl, hob5, TR.cl, TR.n3, rnf_3 _ _ _, d, _, rfl, DGet.k (k := Sum.inl (i : Int)) Ru5.hd, ?_⟩
        rw [kvI_val]
        by_cases hm : (i : Int) ∈ ks
        · rw [if_pos hm]
          obtain ⟨tt, ht⟩ := (mem i).mp hm
          have elv : lv (i : Int) = tt := Ru.sv.lv (tt, i) ht
          refine ⟨_, rfl, iteF ?_⟩
          refine ⟨_, rfl, p, CR, dx5, _, _, rfl, hob5, TR.cl, TR.n3, rnf_3 _ _ _, _, rfl, d, .int (lv (i : Int)), rfl, ?_, ?_⟩
          · have := DGet.k (k := Sum.inl (i : Int)) Ru5.hd
            rw [kvI_val, if_pos hm] at this
            exact this
          rw [elv, wait_in Ru.run ht]
          exact ⟨_, rfl, _, _, rfl, rfl, rfl, rfl⟩
        · rw [if_neg hm, wait_out fun t h => hm ((mem i).mpr ⟨t, h⟩)]
          exact ⟨_, rfl, iteT ⟨rfl, rfl⟩⟩
      rintro _ H5 ⟨rfl, rfl⟩
      have tail : ∀ {H6 : Hp} (v7 : Option V) (tv : V), Same H5 H6 → actB D S slot i = false → ∃ v5 v6 v7', ([some (.ref p), some (.int slot), some (.ref r2), some tv, some (.ref x), some (.int (i : Nat)), some (.int b), v7] : L2.St) = [some (.ref p), some (.int slot), some (.ref r2), some tv, some (.ref x), v5, v6, v7'] ∧ Kx x H3 H6 ∧ H6 x = some (.lst ((((List.range (i + 1)).filter (actB D S slot))).map nV)) := fun v7 tv S6 h => by
        refine ⟨_, _, _, rfl, kx5.trans (Kx.of S6), ?_⟩
        rw [List.range_succ, List.filter_append, List.filter_cons, h, if_neg (by decide), List.filter_nil, List.append_nil]
        exact S6 _ _ hx5
      have yes : ∀ {H6 : Hp} (v7 : Option V) (tv : V), Same H5 H6 → actB D S slot i = true → ∃ v5 v6 v7', ([some (.ref p), some (.int slot), some (.ref r2), some tv, some (.ref x), some (.int (i : Nat)), some (.int b), v7] : L2.St) = [some (.ref p), some (.int slot), some (.ref r2), some tv, some (.ref x), v5, v6, v7'] ∧ Kx x H3 (upd H6 x (.lst (((List.range i).filter (actB D S slot)).map nV ++ [V.int (i : Nat)]))) ∧ (upd H6 x (.lst (((List.range i).filter (actB D S slot)).map nV ++ [V.int (i : Nat)]))) x = some (.lst ((((List.range (i + 1)).filter (actB D S slot))).map nV)) := fun v7 tv S6 h => by
        refine ⟨_, _, _, rfl, (kx5.trans (Kx.of S6)).trans Kx.upd, ?_⟩
        rw [upd_same, List.range_succ, List.filter_append, List.filter_cons, h, if_pos rfl, List.filter_nil, List.map_append]
        rfl
      have sz : (((List.range i).filter (actB D S slot)).map nV).length < sizeLine := by
        rw [List.length_map]
        have := List.length_filter_le (actB D S slot) (List.range i)
        rw [List.length_range] at this
        exact Nat.lt_of_le_of_lt (show _ ≤ 1000 by omega) (by decide)
      refine ⟨_, rfl, _, rfl, _, _, rfl, rfl, _, rfl, ?_⟩
      by_cases hb1 : b ≤ slot
      case neg => exact iteFb (decide_eq_false hb1) (iteF (tail _ _ (Same.refl H5) (by unfold actB; rw [eb, decide_eq_false hb1]; rfl)))
      refine iteTb (decide_eq_true hb1) ?_
      refine ⟨_, rfl, _, rfl, ?_⟩
      cases hwv : decide (∀ p ∈ S, p.2 = i → slot ≤ p.1) with
      | false => exact iteF (iteF (tail _ _ (Same.refl H5) (by unfold actB; rw [eb, decide_eq_true hb1, hwv]; rfl)))
      | true =>
      refine iteT ?_
      have St15 : Same H1 H5 := fun b u e => kx5 b u (ne_of_none e hx) (S3 _ _ (S2 _ _ e))
      have R5 := R1.mono St15
      obtain ⟨dxr5, hobr5⟩ := R5.ob
      cases htl : D.tl with
      | fin =>
        refine ⟨_, rfl, false, rfl, iteF ?_⟩
        refine ⟨_, rfl, r2, dxr5, _, rfl, hobr5, flds_no _ _ _ (by decide +kernel) (by decide +kernel) (by decide +kernel), _, rfl, _, rfl, _, _, rfl, rfl, r2, g2, t, o2, D.gs, .fin, slot - b, rfl, by rw [← htl]; exact R5, True.intro, fun v H6 S6 ff => ?_⟩
        rcases ff with ⟨rfl, _, hd⟩ | ⟨m, rfl, hm, hd, _⟩
        · exact ⟨rfl, _, rfl, iteFb rfl (by
            have := tail (some (V.bl true)) (.bl false) S6 (by unfold actB; rw [eb, decide_eq_true hb1, hwv, htl]; show decide (slot - b ≤ pre D.gs D.gs.length) = false; exact decide_eq_false (by omega))
            exact this)⟩
        · refine ⟨rfl, _, rfl, iteTb rfl ?_⟩
          have hle : slot - b ≤ pre D.gs D.gs.length := by
            have hm : m ≤ D.gs.length := hm
            rw [off_low hm] at hd
            have := pre_mono Ru.scn.R.okG m (D.gs.length - m) (by omega)
            rw [show m + (D.gs.length - m) = D.gs.length by omega] at this
            omega
          exact ⟨_, rfl, .inl ⟨rfl, _, SqL.of (S6 _ _ hx5)⟩, _, rfl, x, _, _, rfl, rfl, S6 _ _ hx5, sz, yes _ _ S6 (by unfold actB; rw [eb, decide_eq_true hb1, hwv, htl]; show decide (slot - b ≤ pre D.gs D.gs.length) = true; exact decide_eq_true hle)⟩
      | times bb =>
        refine ⟨_, rfl, true, rfl, iteT (iteT ?_)⟩
        exact ⟨_, rfl, .inl ⟨rfl, _, SqL.of hx5⟩, _, rfl, x, _, _, rfl, rfl, hx5, sz, yes _ _ (Same.refl H5) (by unfold actB; rw [eb, decide_eq_true hb1, hwv, htl]; rfl)⟩
      | rep m =>
        refine ⟨_, rfl, true, rfl, iteT (iteT ?_)⟩
        exact ⟨_, rfl, .inl ⟨rfl, _, SqL.of hx5⟩, _, rfl, x, _, _, rfl, rfl, hx5, sz, yes _ _ (Same.refl H5) (by unfold actB; rw [eb, decide_eq_true hb1, hwv, htl]; rfl)⟩
    · rintro σ H4 ⟨v5, v6, v7, rfl, kx4, hx4⟩
      rw [List.length_map] at hx4
      exact ⟨_, rfl, k x H4 (kxx kx4) hxH hx4⟩
end
end RS
namespace RS
open PySem L2
/-! ### Run.attempting -/
/-- a dict by whole numbers, of values told by their numbers -/
def kvG (ks : List Int) (f : Int → V) : List (Key × V) := ks.map fun r => ((Sum.inl r : Key), f r)
theorem kvG_val (f : Int → V) (r : Int) : ∀ ks : List Int, valV (kvG ks f) (Sum.inl r) = if r ∈ ks then some (f r) else none
  | [] => rfl
  | x :: ks => by
    have ih := kvG_val f r ks
    show valV (((Sum.inl x : Key), f x) :: kvG ks f) (Sum.inl r) = _
    by_cases e : x = r
    · subst e
      rw [valV_pos rfl, if_pos (List.mem_cons_self ..)]
    · rw [valV_neg (fun z => e (Sum.inl.inj z)), ih]
      by_cases h : r ∈ ks
      · rw [if_pos h, if_pos (List.mem_cons_of_mem _ h)]
      · rw [if_neg h, if_neg (fun z => (List.mem_cons.mp z).elim (fun y => e y.symm) h)]
theorem kvG_put {ks : List Int} (f : Int → V) {r : Int} (h : r ∉ ks) : putK (kvG ks f) (Sum.inl r) (f r) = kvG (ks ++ [r]) f := by
  unfold putK
  rw [valV_any, kvG_val, if_neg h, if_neg (by decide)]
  unfold kvG
  rw [List.map_append]
  rfl
theorem kvG_len (ks : List Int) (f : Int → V) : (kvG ks f).length = ks.length := List.length_map ..
open Classical in
noncomputable def attB (D : ScD) (d : Int) : Bool := decide (∃ k : Nat, (D.tl = .fin → k ≤ D.gs.length) ∧ off D.gs D.tl k = d)
theorem attB_iff {D : ScD} {d : Int} : attB D d = true ↔ ∃ k : Nat, (D.tl = .fin → k ≤ D.gs.length) ∧ off D.gs D.tl k = d := by
  unfold attB
  exact @decide_eq_true_iff _ (Classical.propDecidable _)
theorem aa_att {D : ScD} (okG : GapsOk D.gs) (okT : TlOk D.gs.length D.tl) {d : Int} (hd : HD D.gs D.tl d) {v : V} (h : AA D.gs D.tl d v) : (!decide (v = V.non)) = attB D d := by
  by_cases e : ∃ k : Nat, (D.tl = .fin → k ≤ D.gs.length) ∧ off D.gs D.tl k = d
  · obtain ⟨k, h1, h2⟩ := e
    have ok : AttOk D.gs D.tl k := by
      revert hd h2 h1 okT
      cases D.tl with
      | fin => exact fun _ _ h1 _ => h1 rfl
      | rep m => exact fun _ _ _ _ => True.intro
      | times b =>
        intro okT hd _ h2
        show k ≤ 1000
        refine Nat.le_of_not_lt fun z => ?_
        have := off_lt okG okT z (fun e => nomatch e)
        have hd : d ≤ off D.gs (.times b) 1000 := hd
        omega
    rw [aa_hit okG okT ok h2 h]
    rw [attB_iff.mpr ⟨k, h1, h2⟩]
    rfl
  · rw [Bool.eq_false_iff.mpr fun z => e (attB_iff.mp z)]
    obtain ⟨a, hf, ⟨n, rfl, hn, _⟩ | ⟨_, rfl⟩⟩ := h
    · rcases hf with ⟨e1, _⟩ | ⟨m, e1, hm, _⟩
      · cases e1
      · have : n = m := by have := V.int.inj e1; omega
        subst this
        exact absurd ⟨n, hm.fin, hn⟩ e
    · rfl
noncomputable def attLs (D : ScD) (S : List (Int × Nat)) (slot : Int) : List Nat := (actL D S slot).filter fun c => attB D (slot - D.bs.getD c 0)
section
variable {P : Program} {w : World} {K : PySem.W.Frag} {mg : Str → Option Value} {base : Heap}
def spAtg (C CS CR : Addr) : Sp := fun vs H Q _ => ∃ (a p sc r g t o sl wl q d : Addr) (D : ScD) (rs : List V) (us : List Addr) (S : List (Int × Nat)) (ks : List Int) (lv : Int → Int) (N : Nat) (slot : Int), vs = [.ref p, .int slot] ∧ RunAt C CS CR a H p sc r g t o sl wl q d D rs us S ks lv N ∧ (∀ c, c < D.bs.length → HD D.gs D.tl (slot - D.bs.getD c 0)) ∧
  ∀ x H', Same H H' → H x = none → H' x = some (.lst ((attLs D S slot).map nV)) → Q (.ref x) H'
def atN : List Str := ["self", "slot", "rule", "starts", "active", "placed", "client"]
theorem scAtg : FnScope atN ["self", "slot"] (defScope s_Run_attempting) := ⟨rfl, rfl, rfl, by decide +kernel, rfl, by decide +kernel, by decide +kernel⟩
theorem ok_atg {f C CS CR fS fR fV fA : Addr} {fd fdS fdR fdV fdA : FuncData} (F : Fun K "attempting" "Run.attempting" s_Run_attempting f fd) (T : Txt K mg C) (TS : TxtS K mg CS) (TR : TxtR K mg CR)
    (GS : FnOk P w K mg base CX0 1 fS fdS ["self"] (spSts C CS)) (bS : Binds K fdS ["self"] []) (mS : Meth K CS "starts" fS) (GR : FnOk P w K mg base CX0 5 fR fdR ["self"] (spRul C CS)) (bR : Binds K fdR ["self"] []) (mR : Meth K CS "rule" fR)
    (GV : FnOk P w K mg base CX0 6 fV fdV ["self", "slot"] (spAct C CS CR)) (bV : Binds K fdV ["self", "slot"] []) (mV : Meth K CR "active" fV) (GA : FnOk P w K mg base CX0 6 fA fdA ["self", "distance"] (spAA C)) (bA : Binds K fdA ["self", "distance"] []) (mA : Meth K C "attempt_at" fA) : FnOk P w K mg base CX0 7 f fd ["self", "slot"] (spAtg C CS CR) := by
  refine F.ok scAtg (fun vs H Q E h => ?_) (fun cdv A outer s H vs Q E hr h => ?_)
  · obtain ⟨a, p, sc, r, g, t, o, sl, wl, q, d, D, rs, us, S, ks, lv, N, slot, rfl, _⟩ := h
    rfl
  · obtain ⟨a, p, sc, r, g, t, o, sl, wl, q, d, D, rs, us, S, ks, lv, N, slot, rfl, Ru, hd, k⟩ := h
    have hr1 := hr.mono (show 1 ≤ 6 by decide)
    have hr5 := hr.mono (show 5 ≤ 6 by decide)
    have hu := hu_of hr
    refine ⟨_, (pss_cons (ps_set (i := 2) scAtg.nd rfl (Or.inl rfl) (pe_meth0 (pe_fld (pv 0) rfl) TS.cl mR GR hr5 bR .nil pass0)) (pss_cons (ps_set (i := 3) scAtg.nd rfl (Or.inr rfl) (pe_meth0 (pe_fld (pv 0) rfl) TS.cl mS GS hr1 bS .nil pass0)) (pss_cons (ps_set (i := 4) scAtg.nd rfl (Or.inl rfl) (pe_meth (pv 0) TR.cl mV GV hr bV .nil pass0 (pa_cons (pv 1) pa_nil))) (pss_cons (ps_set (i := 5) scAtg.nd rfl (Or.inr rfl) pe_dnewK) (pss_cons (ps_for PassesOwn.never rfl (pi_list (pv 4)) (pg_name (i := 6) scAtg.nd rfl (Or.inl rfl)) (pss_one (ps_if (pt_cmp (pc_dnotin hu (pe_ix ix_list (pv 3) (pv 6) (fun _ _ => rfl)) (pv 5))) (pss_one (ps_dput hu (pv 5) (pe_ix ix_list (pv 3) (pv 6) (fun _ _ => rfl)) (pe_cmpR op_notN (pe_meth (pv 2) T.cl mA GA hr bA .nil pass0 (pa_cons (pe_op op_sub (pv 1) (pe_ix ix_list (pv 3) (pv 6) (fun _ _ => rfl))) pa_nil)) pe_non (nomark _)) rfl)) pss_nil))) (pss_one (ps_ret (pe_lc (own := [("client", 6)]) (g := gName 6) rfl scAtg.nd (pi_list (pv 4)) (blkOk_by (own := [("client", 6)]) (N := atN) (sc := (defScope s_Run_attempting)) (by decide +kernel)) (fun _ _ _ _ _ => (pg_name (i := 6) scAtg.nd rfl (Or.inl rfl))) (fun _ _ _ _ _ => pts_one (pt_val (pe_dget hu (pv 5) (pe_ix (r := rIxL K) ix_list (pv 3) (pv 6) (fun _ _ => rfl)) (fun _ _ => rfl)))) (fun _ _ _ _ _ => (pv 6)))))))))), ?_⟩
    have b40 := Ru.scn.ok.b40
    have okG := Ru.scn.R.okG
    have okT := Ru.scn.R.okT
    obtain ⟨dx, hob⟩ := Ru.ob
    obtain ⟨dxs, obs⟩ := Ru.scn.ob
    have no : ∀ {m : Str}, ¬ m = "_length" → ¬ m = "_outages" → ¬ m = "_starts" → ¬ m = "_rule" → (sflds r sl wl D.ln).lookup m = none := fun a b d e => sflds_no _ _ _ _ a b d e
    refine ⟨_, rfl, p, CR, dx, _, _, rfl, hob, TR.cl, TR.n1, rnf_1 _ _ _, sc, dxs, _, rfl, obs, no (by decide +kernel) (by decide +kernel) (by decide +kernel) (by decide +kernel), a, sc, r, g, t, o, sl, wl, D.gs, D.tl, D.bs, _, D.ws, D.ln, rfl, Ru.scn, fun r2 g2 o2 H1 S1 hr2' R1 => ?_⟩
    have Ru1 := Ru.kx (Kx.of S1)
    obtain ⟨dx1, hob1⟩ := Ru1.ob
    obtain ⟨dxs1, obs1⟩ := Ru1.scn.ob
    refine ⟨_, rfl, p, CR, dx1, _, _, rfl, hob1, TR.cl, TR.n1, rnf_1 _ _ _, sc, dxs1, _, rfl, obs1, no (by decide +kernel) (by decide +kernel) (by decide +kernel) (by decide +kernel), a, sc, r, g, t, o, sl, wl, D.gs, D.tl, D.bs, _, D.ws, D.ln, rfl, Ru1.scn, fun l hl => ?_⟩
    have S2 := same_new (o := .lst (D.bs.map V.int)) hl
    have hl2 : (upd H1 l (.lst (D.bs.map V.int))) l = some (.lst (D.bs.map V.int)) := upd_same
    have R2 := R1.mono S2
    have Ru2 := Ru1.kx (Kx.of S2)
    have S02 := S1.trans S2
    generalize upd H1 l (.lst (D.bs.map V.int)) = H2 at S2 hl2 R2 Ru2 S02
    obtain ⟨dx2, hob2⟩ := Ru2.ob
    refine ⟨_, rfl, p, dx2, _, rfl, hob2, rnf_no (by decide +kernel) (by decide +kernel) (by decide +kernel), _, rfl, a, p, sc, r, g, t, o, sl, wl, q, d, D, _, us, S, ks, lv, N, slot, rfl, Ru2, fun x H3 S3 hx hx3 => ?_⟩
    have hl3 := S3 _ _ hl2
    have R3 := R2.mono S3
    have S03 := S02.trans S3
    refine fun e he => ?_
    have S4 := same_new (o := .dK []) he
    have he4 : (upd H3 e (.dK [])) e = some (.dK []) := upd_same
    have hl4 := S4 _ _ hl3
    have hx4 := S4 _ _ hx3
    have R4 := R3.mono S4
    have nle : l ≠ e := ne_of_none hl3 he
    have nxe : x ≠ e := ne_of_none hx3 he
    have heH : H e = none := S03.free he
    have S04 := S03.trans S4
    generalize upd H3 e (.dK []) = H4 at S4 he4 hl4 hx4 R4 S04
    have lact : (actL D S slot).length ≤ 40 := by
      have := List.length_filter_le (actB D S slot) (List.range D.bs.length)
      rw [List.length_range] at this
      exact Nat.le_trans this b40
    have inb : ∀ c ∈ actL D S slot, c < D.bs.length := fun c hc => List.mem_range.mp (List.mem_filter.mp hc).1
    have R4k : ∀ {H' : Hp}, Kx e H4 H' → RuleAt C H' r2 g2 t o2 D.gs D.tl := fun k' => by
      obtain ⟨dd, ho⟩ := R4.ob
      exact R4.kx k' (ne_of ho he4 (by intro z; cases z)) (ne_of R4.hg he4 (by intro z; cases z)) (ne_of R4.ht he4 (by intro z; cases z)) (ne_of R4.ho he4 (by intro z; cases z))
    refine ⟨_, rfl, x, rfl, ⟨_, SqL.of hx4⟩, for_list (a := x) (xs := (actL D S slot).map nV) (fun i σ H' => ∃ v6 kk, σ = [some (.ref p), some (.int slot), some (.ref r2), some (.ref l), some (.ref x), some (.ref e), v6] ∧ Kx e H4 H' ∧ H' e = some (.dK (kvG kk fun b => .bl (attB D (slot - b)))) ∧ kk.length ≤ i ∧ ∀ c ∈ (actL D S slot).take i, D.bs.getD c 0 ∈ kk) ⟨none, [], rfl, Kx.refl e H4, he4, Nat.le_refl _, fun c hc => nomatch hc⟩ (fun i σ H' _ z => ?_) ?_ ?_⟩
    · obtain ⟨_, _, _, kx, _⟩ := z
      exact SqL.of (kx _ _ nxe hx4)
    · rintro i y σ H5 hy ⟨v6, kk, rfl, kx5, he5, hkk, hall⟩
      rw [List.getElem?_map] at hy
      cases hci : (actL D S slot)[i]? with
      | none => rw [hci] at hy; cases hy
      | some c =>
        rw [hci] at hy
        cases hy
        have hcn := inb c (List.mem_of_getElem? hci)
        have hil := (List.getElem?_eq_some_iff.mp hci).1
        have hl5 := kx5 _ _ nle hl4
        have tk : (actL D S slot).take (i + 1) = (actL D S slot).take i ++ [c] := by rw [List.take_add_one, hci]; rfl
        refine ⟨_, rfl, _, rfl, l, _, _, _, rfl, rfl, SqL.of hl5, at_map (getD_get hcn), _, rfl, e, _, rfl, DGet.k (k := Sum.inl (D.bs.getD c 0)) he5, ?_⟩
        rw [kvG_val]
        by_cases hin : D.bs.getD c 0 ∈ kk
        · rw [if_pos hin]
          refine ⟨_, rfl, iteF ⟨_, kk, rfl, kx5, he5, by omega, fun c' hc' => ?_⟩⟩
          rw [tk] at hc'
          rcases List.mem_append.mp hc' with z | z
          · exact hall c' z
          · rw [List.mem_singleton.mp z]
            exact hin
        · rw [if_neg hin]
          refine ⟨_, rfl, iteT ?_⟩
          have R5 := R4k kx5
          obtain ⟨dr5, ho5⟩ := R5.ob
          refine ⟨_, rfl, r2, dr5, _, rfl, ho5, flds_no _ _ _ (by decide +kernel) (by decide +kernel) (by decide +kernel), _, rfl, _, rfl, _, rfl, l, _, _, _, rfl, rfl, SqL.of hl5, at_map (getD_get hcn), _, _, rfl, rfl, r2, g2, t, o2, D.gs, D.tl, _, rfl, R5, hd c hcn, fun v H6 S6 aa => ⟨rfl, ?_⟩⟩
          rw [aa_att okG okT (hd c hcn) aa]
          refine ⟨_, rfl, _, rfl, _, rfl, l, _, _, _, rfl, rfl, SqL.of (S6 _ _ hl5), at_map (getD_get hcn), e, _, rfl, DPut.k (k := Sum.inl (D.bs.getD c 0)) (S6 _ _ he5) (by rw [kvG_len]; exact Nat.lt_of_le_of_lt (show _ ≤ 1000 by omega) (by decide)), ?_⟩
          refine ⟨_, kk ++ [D.bs.getD c 0], rfl, (kx5.trans (Kx.of S6)).trans Kx.upd, ?_, by rw [List.length_append, List.length_singleton]; omega, fun c' hc' => ?_⟩
          · rw [upd_same]
            exact congrArg (fun z => some (HO.dK z)) (kvG_put (fun b => .bl (attB D (slot - b))) hin)
          · rw [tk] at hc'
            rcases List.mem_append.mp hc' with z | z
            · exact List.mem_append.mpr (.inl (hall c' z))
            · rw [List.mem_singleton.mp z]
              exact List.mem_append.mpr (.inr (List.mem_singleton.mpr rfl))
    rintro σ H5 ⟨v6, kk, rfl, kx5, he5, hkk, hall⟩
    rw [List.length_map] at hkk hall
    rw [List.take_length] at hall
    have hx5 := kx5 _ _ nxe hx4
    have hl5 := kx5 _ _ nle hl4
    have S05 : Same H H5 := fun b u z => kx5 b u (ne_of_none z heH) (S04 _ _ z)
    refine ⟨_, rfl, x, rfl, ⟨_, SqL.of hx5⟩, fun Dl hDl => lc_list (a := x) (xs := (actL D S slot).map nV) (fun i H' => Same H5 H' ∧ H' Dl = some (.lst ((((actL D S slot).take i).filter fun c => attB D (slot - D.bs.getD c 0)).map nV))) ⟨same_new hDl, upd_same⟩ (fun i H' _ z => SqL.of (z.1 _ _ hx5)) (fun i y H6 hy z => ?_) (fun H6 z => ?_)⟩
    · obtain ⟨S6, hD6⟩ := z
      rw [List.getElem?_map] at hy
      cases hci : (actL D S slot)[i]? with
      | none => rw [hci] at hy; cases hy
      | some c =>
        rw [hci] at hy
        cases hy
        have hcm := List.mem_of_getElem? hci
        have hcn := inb c hcm
        have hil := (List.getElem?_eq_some_iff.mp hci).1
        refine ⟨rfl, ?_⟩
        refine ⟨_, rfl, _, rfl, _, rfl, l, _, _, _, rfl, rfl, SqL.of (S6 _ _ hl5), at_map (getD_get hcn), e, .bl (attB D (slot - D.bs.getD c 0)), rfl, ?_, _, rfl, ?_⟩
        · have := DGet.k (k := Sum.inl (D.bs.getD c 0)) (S6 _ _ he5)
          rw [kvG_val, if_pos (hall c hcm)] at this
          exact this
        rw [List.take_add_one, hci, List.filter_append, List.map_append]
        show if attB D (slot - D.bs.getD c 0) = true then _ else _
        cases hb : attB D (slot - D.bs.getD c 0) with
        | true =>
          refine iteT ⟨_, rfl, _, hD6, ?_, same_app hDl S6, ?_⟩
          · rw [List.length_map]
            have := List.length_filter_le (fun c => attB D (slot - D.bs.getD c 0)) ((actL D S slot).take i)
            rw [List.length_take] at this
            exact Nat.lt_of_le_of_lt (show _ ≤ 1000 by omega) (by decide)
          · rw [upd_same]
            show _ = some (HO.lst (_ ++ (List.filter _ [c]).map nV))
            rw [List.filter_cons, hb, if_pos rfl]
            rfl
        | false =>
          refine iteF ⟨S6, ?_⟩
          show _ = some (HO.lst (_ ++ (List.filter _ [c]).map nV))
          rw [List.filter_cons, hb, if_neg (by decide), List.filter_nil, List.map_nil, List.append_nil]
          exact hD6
    obtain ⟨S6, hD6⟩ := z
    rw [List.length_map, List.take_length] at hD6
    exact k Dl H6 (S05.trans S6) (S05.free hDl) hD6
end
end RS
namespace RS
open PySem L2
/-! ### Run._occupant, event -/
/-- the client that was served before a slot and keeps the server busy -/
def IsOccu (S : List (Int × Nat)) (ℓ slot : Int) : Option Nat → Prop
  | none => ∀ p ∈ S, ¬ (p.1 < slot ∧ slot < p.1 + ℓ)
  | some c => ∃ b, (b, c) ∈ S ∧ b < slot ∧ slot < b + ℓ
def occV : Option Nat → V
  | none => .non
  | some c => .int (c : Int)
section
variable {P : Program} {w : World} {K : PySem.W.Frag} {mg : Str → Option Value} {base : Heap}
def spOcu (C CS CR : Addr) : Sp := fun vs H Q _ => ∃ (a p sc r g t o sl wl q d : Addr) (D : ScD) (rs : List V) (us : List Addr) (S : List (Int × Nat)) (ks : List Int) (lv : Int → Int) (N : Nat) (slot : Int), vs = [.ref p, .int slot] ∧ RunAt C CS CR a H p sc r g t o sl wl q d D rs us S ks lv N ∧
  ∀ oc H', Same H H' → IsOccu S D.ln slot oc → Q (occV oc) H'
theorem scOcu : FnScope ["self", "slot", "begin", "client"] ["self", "slot"] (defScope s_Run_occupant) := ⟨rfl, rfl, rfl, by decide +kernel, rfl, by decide +kernel, by decide +kernel⟩
theorem ok_ocu {f C CS CR fL : Addr} {fd fdL : FuncData} (F : Fun K "_occupant" "Run._occupant" s_Run_occupant f fd) (T : Txt K mg C) (TS : TxtS K mg CS) (TR : TxtR K mg CR)
    (GL : FnOk P w K mg base CX0 1 fL fdL ["self"] (spLng C CS)) (bL : Binds K fdL ["self"] []) (mL : Meth K CS "length" fL) : FnOk P w K mg base CX0 2 f fd ["self", "slot"] (spOcu C CS CR) := by
  refine F.ok scOcu (fun vs H Q E h => ?_) (fun cdv A outer s H vs Q E hr h => ?_)
  · obtain ⟨a, p, sc, r, g, t, o, sl, wl, q, d, D, rs, us, S, ks, lv, N, slot, rfl, _⟩ := h
    rfl
  · obtain ⟨a, p, sc, r, g, t, o, sl, wl, q, d, D, rs, us, S, ks, lv, N, slot, rfl, Ru, k⟩ := h
    refine ⟨_, (pss_cons (ps_for PassesOwn.never rfl (pi_list (pe_fld (pv 0) rfl)) (pg_tup rfl (pgs_cons (pg_name (i := 2) scOcu.nd rfl (Or.inl rfl)) (pgs_cons (pg_name (i := 3) scOcu.nd rfl (Or.inl rfl)) pgs_nil)))
      (pss_one (ps_if (pt_chain op_lt op_lt (pv 2) (pv 1) (pe_op op_add (pv 2) (pe_meth0 (pe_fld (pv 0) rfl) TS.cl mL GL hr bL .nil pass0))) (pss_one (ps_ret (pv 3))) pss_nil))) (pss_one (ps_ret pe_non))), ?_⟩
    obtain ⟨dx, hob⟩ := Ru.ob
    obtain ⟨dxs, obs⟩ := Ru.scn.ob
    have ls : us.length = S.length := by rw [Ru.tv.1, List.length_map]
    refine ⟨_, rfl, p, CR, dx, _, _, rfl, hob, TR.cl, TR.n2, rnf_2 _ _ _, q, rfl, ⟨_, SqL.of Ru.hq⟩, for_list (a := q) (xs := us.map V.ref) (fun i σ H' => (∃ v2 v3, σ = [some (.ref p), some (.int slot), v2, v3]) ∧ H' = H ∧ ∀ p0 ∈ S.take i, ¬ (p0.1 < slot ∧ slot < p0.1 + D.ln)) ⟨⟨_, _, rfl⟩, rfl, fun p0 h => nomatch h⟩ (fun i σ H' _ z => by rw [z.2.1]; exact SqL.of Ru.hq) ?_ ?_⟩
    · rintro i x σ H1 hx ⟨⟨v2, v3, rfl⟩, rfl, hn⟩
      obtain ⟨r', pr, rfl, hpr, hr'⟩ := Ru.tv.get hx
      rw [List.getElem?_map] at hpr
      cases hpx : S[i]? with
      | none => rw [hpx] at hpr; cases hpr
      | some p0 =>
        rw [hpx] at hpr
        cases hpr
        have tk : S.take (i + 1) = S.take i ++ [p0] := by rw [List.take_add_one, hpx]; rfl
        have next : ¬ (p0.1 < slot ∧ slot < p0.1 + D.ln) → ∀ p1 ∈ S.take (i + 1), ¬ (p1.1 < slot ∧ slot < p1.1 + D.ln) := fun h p1 h1 => by
          rw [tk] at h1
          rcases List.mem_append.mp h1 with z | z
          · exact hn p1 z
          · rw [List.mem_singleton.mp z]
            exact h
        refine ⟨r', _, rfl, SqT.of hr', rfl, _, _, rfl, _, _, rfl, rfl, ?_⟩
        refine ⟨_, rfl, _, rfl, _, _, rfl, rfl, _, rfl, ?_⟩
        by_cases h1 : p0.1 < slot
        · refine iteTb (decide_eq_true h1) ?_
          refine ⟨_, rfl, _, rfl, p, CR, dx, _, _, rfl, hob, TR.cl, TR.n1, rnf_1 _ _ _, sc, dxs, _, rfl, obs, sflds_no _ _ _ _ (by decide +kernel) (by decide +kernel) (by decide +kernel) (by decide +kernel), a, sc, r, g, t, o, sl, wl, D.gs, D.tl, D.bs, _, D.ws, D.ln, rfl, Ru.scn, _, _, rfl, rfl, _, _, rfl, rfl, _, rfl, ?_⟩
          by_cases h2 : slot < p0.1 + D.ln
          · exact iteTb (decide_eq_true h2) ⟨_, rfl, k (some p0.2) _ (Same.refl _) ⟨p0.1, List.mem_of_getElem? hpx, h1, h2⟩⟩
          · exact iteFb (decide_eq_false h2) ⟨⟨_, _, rfl⟩, rfl, next fun z => h2 z.2⟩
        · exact iteFb (decide_eq_false h1) ⟨_, rfl, iteF ⟨⟨_, _, rfl⟩, rfl, next fun z => h1 z.1⟩⟩
    · rintro σ H1 ⟨⟨v2, v3, rfl⟩, rfl, hn⟩
      rw [List.length_map, ls, List.take_length] at hn
      exact k none _ (Same.refl _) hn
end
end RS
namespace RS
open PySem L2
/-! ### Run.event -/
/-- what happens in a slot: the tuple's parts; q the list of those who make an attempt -/
inductive EvAt (D : ScD) (S : List (Int × Nat)) (slot : Int) (q : Addr) : List V → Prop
  | out (j : Nat) (w : Int × Int) : D.ws[j]? = some w → w.1 ≤ slot → slot < w.2 → EvAt D S slot q [.str "outage", .int (j : Int), .ref q]
  | busy (c : Nat) (b : Int) : ¬ OutA D.ws slot → (b, c) ∈ S → b < slot → slot < b + D.ln → EvAt D S slot q [.str "busy", .int (c : Int), .ref q]
  | met : ¬ OutA D.ws slot → ¬ BusyA S D.ln slot → 1 < (attLs D S slot).length → EvAt D S slot q [.str "met", .ref q]
  | served (c : Nat) : ¬ OutA D.ws slot → ¬ BusyA S D.ln slot → attLs D S slot = [c] → EvAt D S slot q [.str "served", .int (c : Int)]
  | idle : ¬ OutA D.ws slot → ¬ BusyA S D.ln slot → attLs D S slot = [] → EvAt D S slot q [.str "idle"]
section
variable {P : Program} {w : World} {K : PySem.W.Frag} {mg : Str → Option Value} {base : Heap}
def spEv (C CS CR : Addr) : Sp := fun vs H Q _ => ∃ (a p sc r g t o sl wl q d : Addr) (D : ScD) (rs : List V) (us : List Addr) (S : List (Int × Nat)) (ks : List Int) (lv : Int → Int) (N : Nat) (slot : Int), vs = [.ref p, .int slot] ∧ RunAt C CS CR a H p sc r g t o sl wl q d D rs us S ks lv N ∧ (∀ c, c < D.bs.length → HD D.gs D.tl (slot - D.bs.getD c 0)) ∧
  ∀ x y xs H', Same H H' → H x = none → H' x = some (.tup xs) → H' y = some (.lst ((attLs D S slot).map nV)) → EvAt D S slot y xs → Q (.ref x) H'
def evN : List Str := ["self", "slot", "clients", "at", "occupant"]
theorem scEv : FnScope evN ["self", "slot"] (defScope s_Run_event) := ⟨rfl, rfl, rfl, by decide +kernel, rfl, by decide +kernel, by decide +kernel⟩
theorem ok_ev {f C CS CR fA fO fU : Addr} {fd fdA fdO fdU : FuncData} (F : Fun K "event" "Run.event" s_Run_event f fd) (T : Txt K mg C) (TS : TxtS K mg CS) (TR : TxtR K mg CR)
    (GA : FnOk P w K mg base CX0 7 fA fdA ["self", "slot"] (spAtg C CS CR)) (bA : Binds K fdA ["self", "slot"] []) (mA : Meth K CR "attempting" fA) (GO : FnOk P w K mg base CX0 3 fO fdO ["self", "slot"] (spOutA C CS)) (bO : Binds K fdO ["self", "slot"] []) (mO : Meth K CS "outage_at" fO)
    (GU : FnOk P w K mg base CX0 2 fU fdU ["self", "slot"] (spOcu C CS CR)) (bU : Binds K fdU ["self", "slot"] []) (mU : Meth K CR "_occupant" fU) : FnOk P w K mg base CX0 8 f fd ["self", "slot"] (spEv C CS CR) := by
  refine F.ok scEv (fun vs H Q E h => ?_) (fun cdv A outer s H vs Q E hr h => ?_)
  · obtain ⟨a, p, sc, r, g, t, o, sl, wl, q, d, D, rs, us, S, ks, lv, N, slot, rfl, _⟩ := h
    rfl
  · obtain ⟨a, p, sc, r, g, t, o, sl, wl, q, d, D, rs, us, S, ks, lv, N, slot, rfl, Ru, hd, k⟩ := h
    have hr3 := hr.mono (show 3 ≤ 7 by decide)
    have hr2 := hr.mono (show 2 ≤ 7 by decide)
    refine ⟨_, (pss_cons (ps_set (i := 2) scEv.nd rfl (Or.inl rfl) (pe_meth (pv 0) TR.cl mA GA hr bA .nil pass0 (pa_cons (pv 1) pa_nil))) (pss_cons (ps_set (i := 3) scEv.nd rfl (Or.inl rfl) (pe_meth (pe_fld (pv 0) rfl) TS.cl mO GO hr3 bO .nil pass0 (pa_cons (pv 1) pa_nil))) (pss_cons (ps_if (pt_cmpR op_notN (pv 3) pe_non (nomark _)) (pss_one (ps_ret (pe_tup (pa_cons pe_str (pa_cons (pv 3) (pa_cons (pv 2) pa_nil)))))) pss_nil) (pss_cons (ps_set (i := 4) scEv.nd rfl (Or.inl rfl) (pe_meth (pv 0) TR.cl mU GU hr2 bU .nil pass0 (pa_cons (pv 1) pa_nil))) (pss_cons (ps_if (pt_cmpR op_notN (pv 4) pe_non (nomark _)) (pss_one (ps_ret (pe_tup (pa_cons pe_str (pa_cons (pv 4) (pa_cons (pv 2) pa_nil)))))) pss_nil) (pss_cons (ps_if (pt_cmpR op_gt (pe_callB call_len_seq (by rfl) T.len (by decide +kernel) (pa_cons (pv 2) pa_nil)) pe_int (nomark _)) (pss_one (ps_ret (pe_tup (pa_cons pe_str (pa_cons (pv 2) pa_nil))))) pss_nil) (pss_cons (ps_if (pt_truth (pv 2) (fun _ => rfl)) (pss_one (ps_ret (pe_tup (pa_cons pe_str (pa_cons (pe_ix ix_list (pv 2) pe_int (fun _ _ => rfl)) pa_nil))))) pss_nil) (pss_one (ps_ret (pe_tup (pa_cons pe_str pa_nil))))))))))), ?_⟩
    obtain ⟨dx, hob⟩ := Ru.ob
    refine ⟨_, rfl, p, dx, _, rfl, hob, rnf_no (by decide +kernel) (by decide +kernel) (by decide +kernel), _, rfl, a, p, sc, r, g, t, o, sl, wl, q, d, D, _, us, S, ks, lv, N, slot, rfl, Ru, hd, fun y H1 S1 hy hy1 => ?_⟩
    have Ru1 := Ru.kx (Kx.of S1)
    obtain ⟨dx1, hob1⟩ := Ru1.ob
    obtain ⟨dxs1, obs1⟩ := Ru1.scn.ob
    refine ⟨_, rfl, p, CR, dx1, _, _, rfl, hob1, TR.cl, TR.n1, rnf_1 _ _ _, sc, dxs1, _, rfl, obs1, sflds_no _ _ _ _ (by decide +kernel) (by decide +kernel) (by decide +kernel) (by decide +kernel), _, rfl, a, sc, r, g, t, o, sl, wl, D.gs, D.tl, D.bs, _, D.ws, D.ln, slot, rfl, Ru1.scn, fun H2 S2 => ?_⟩
    have S12 := S1.trans S2
    have hy2 := S2 _ _ hy1
    have Ru2 := Ru1.kx (Kx.of S2)
    have fin : ∀ {H' : Hp} (xs : List V), Same H2 H' → EvAt D S slot y xs → ∀ x, H' x = none → Q (.ref x) (upd H' x (.tup xs)) := fun xs S' e x hx =>
      k x y xs _ ((S12.trans S').trans (same_new hx)) ((S12.trans S').free hx) upd_same (same_new hx _ _ (S' _ _ hy2)) e
    rcases outV_cases D.ws slot with ⟨eo, no_out⟩ | ⟨j, w0, eo, hj, h1, h2⟩
    · rw [eo]
      refine ⟨_, rfl, rfl, _, rfl, iteFb rfl ?_⟩
      obtain ⟨dx2, hob2⟩ := Ru2.ob
      refine ⟨_, rfl, p, dx2, _, rfl, hob2, rnf_no (by decide +kernel) (by decide +kernel) (by decide +kernel), _, rfl, a, p, sc, r, g, t, o, sl, wl, q, d, D, _, us, S, ks, lv, N, slot, rfl, Ru2, fun oc H3 S3 ho => ?_⟩
      have hy3 := S3 _ _ hy2
      cases oc with
      | some c =>
        obtain ⟨b, hb1, hb2, hb3⟩ := ho
        exact ⟨_, rfl, rfl, _, rfl, iteTb rfl ⟨_, rfl, _, rfl, (by show 3 ≤ sizeLine; decide), fun x hx => fin _ S3 (.busy c b no_out hb1 hb2 hb3) x hx⟩⟩
      | none =>
        have nb : ¬ BusyA S D.ln slot := fun ⟨p0, h1, h2, h3⟩ => ho p0 h1 ⟨h2, h3⟩
        refine ⟨_, rfl, rfl, _, rfl, iteFb rfl ?_⟩
        refine ⟨_, rfl, y, _, rfl, .inl (SqL.of hy3), _, _, rfl, rfl, _, rfl, ?_⟩
        rw [List.length_map]
        cases hl : attLs D S slot with
        | nil =>
          rw [hl] at hy3
          refine iteFb (decide_eq_false (by decide)) ⟨_, rfl, false, .inl ⟨_, SqL.of hy3, rfl⟩, iteF ⟨(by show 1 ≤ sizeLine; decide), fun x hx => fin _ S3 (.idle no_out nb hl) x hx⟩⟩
        | cons c l =>
          cases l with
          | nil =>
            rw [hl] at hy3
            refine iteFb (decide_eq_false (by show ¬ ((1 : Int) < ((1 : Nat) : Int)); decide)) ⟨_, rfl, true, .inl ⟨_, SqL.of hy3, rfl⟩, iteT ⟨_, rfl, y, _, 0, _, rfl, rfl, SqL.of hy3, atI_nat (j := 0) rfl, (by show 2 ≤ sizeLine; decide), fun x hx => fin _ S3 (.served c no_out nb hl) x hx⟩⟩
          | cons c2 l2 =>
            refine iteTb (decide_eq_true (by rw [List.length_cons, List.length_cons]; omega)) ⟨_, rfl, (by show 2 ≤ sizeLine; decide), fun x hx => fin _ S3 (.met no_out nb (by rw [hl, List.length_cons, List.length_cons]; omega)) x hx⟩
    · rw [eo]
      exact ⟨_, rfl, rfl, _, rfl, iteTb rfl ⟨_, rfl, _, rfl, (by show 3 ≤ sizeLine; decide), fun x hx => fin _ (Same.refl H2) (.out j w0 hj h1 h2) x hx⟩⟩
end
end RS
namespace RS
open PySem L2
/-! ### outcomes as data; who fails -/
def ocD : Oc → PyData
  | .served k t => .tuple [.str "served", .int (k : Int), .int t]
  | .ended => .tuple [.str "ended"]
  | .never => .tuple [.str "never"]
theorem ocD_dp {K : PySem.W.Frag} {H : Hp} {r : Addr} : ∀ {x : Oc}, H r = some (.tup x.vs) → Dp K H (.ref r) (ocD x)
  | .served _ _, h => .tup (SqT.of h) (.cons (.str _) (.cons (.int _) (.cons (.int _) .nil)))
  | .ended, h => .tup (SqT.of h) (.cons (.str _) .nil)
  | .never, h => .tup (SqT.of h) (.cons (.str _) .nil)
theorem ocD_can : ∀ x : Oc, PyData.canLay0 (ocD x) = true
  | .served k t => by
    have e : PyData.canLay0 (.str "served") = true := by decide +kernel
    show (PyData.canLay0 (.str "served") && (true && (true && true))) = true
    rw [e]
    rfl
  | .ended => by decide +kernel
  | .never => by decide +kernel
theorem ocD_depth : ∀ x : Oc, PyData.depth (ocD x) ≤ 2
  | .served k t => by simp [ocD, PyData.depth, PyData.depthAll]
  | .ended => by simp [ocD, PyData.depth, PyData.depthAll]
  | .never => by simp [ocD, PyData.depth, PyData.depthAll]
theorem ocD_shaped (x : Oc) : SeqAt.shaped (ocD x) = true := by
  have h1 := ocD_can x
  have h2 := ocD_depth x
  show (PyData.canLay0 (ocD x) && decide (PyData.depth (ocD x) ≤ 64)) = true
  rw [h1, decide_eq_true (by omega)]
  rfl
theorem ocD_eqv : ∀ x y : Oc, PyData.eqv (ocD x) (ocD y) = decide (x = y)
  | .served k t, .served l u => by
    show (true && (((k : Int) == (l : Int)) && ((t == u) && true))) = _
    rw [Bool.eq_iff_iff]
    simp
    omega
  | .served k t, .ended => by rw [decide_eq_false (fun e => nomatch e)]; rfl
  | .served k t, .never => by rw [decide_eq_false (fun e => nomatch e)]; rfl
  | .ended, .served k t => by rw [decide_eq_false (fun e => nomatch e)]; rfl
  | .never, .served k t => by rw [decide_eq_false (fun e => nomatch e)]; rfl
  | .ended, .ended => by decide +kernel
  | .ended, .never => by decide +kernel
  | .never, .ended => by decide +kernel
  | .never, .never => by decide +kernel
def Oc.word : Oc → Str
  | .served _ _ => "served"
  | .ended => "ended"
  | .never => "never"
theorem Oc.at0 (x : Oc) : atI x.vs 0 = some (.str x.word) := by cases x <;> exact atI_nat (j := 0) rfl
theorem wSS : decide (V.str "served" = V.str "served") = true := by decide +kernel
theorem wES : decide (V.str "ended" = V.str "served") = false := by decide +kernel
theorem wNS : decide (V.str "never" = V.str "served") = false := by decide +kernel
def failO : Tl → Oc
  | .fin => .ended
  | _ => .never
theorem oc_kind {D : ScD} {S : List (Int × Nat)} {c : Nat} {oc : Oc} (h : IsOc D S c oc) : (∃ k t, oc = .served k t ∧ (t, c) ∈ S) ∨ oc = failO D.tl ∧ ∀ t, (t, c) ∉ S := by
  cases oc with
  | served k t => exact .inl ⟨k, t, rfl, h.1⟩
  | ended =>
    obtain ⟨h1, h2⟩ := h
    exact .inr ⟨by rw [h2]; rfl, h1⟩
  | never =>
    obtain ⟨h1, h2⟩ := h
    refine .inr ⟨?_, h1⟩
    revert h2
    cases D.tl with
    | fin => exact fun h => absurd rfl h
    | times b => exact fun _ => rfl
    | rep m => exact fun _ => rfl
theorem oc_twin {D : ScD} {S : List (Int × Nat)} {c : Nat} {oc : Oc} (R : RunS D.gs D.tl D.bs D.ws D.ln S) (h : IsOc D S c oc) (hc : D.bs.count (D.bs.getD c 0) ≠ 1) : oc = failO D.tl := by
  rcases oc_kind h with ⟨k, t, _, hs⟩ | ⟨e, _⟩
  · exact absurd (run_uniq R hs) hc
  · exact e
theorem oc_times {D : ScD} {S : List (Int × Nat)} {c : Nat} {oc : Oc} {b : Int} {N : Nat} (okG : GapsOk D.gs) (okT : TlOk D.gs.length D.tl) (R : RunS D.gs D.tl D.bs D.ws D.ln S) (nr : Near D N) (n1 : 1 ≤ D.ln) (e : D.tl = .times b) (h : IsOc D S c oc) (hcn : c < D.bs.length) (hc : D.bs.count (D.bs.getD c 0) = 1) : ∃ k t, oc = .served k t := by
  rcases oc_kind h with ⟨k, t, e, _⟩ | ⟨_, hn⟩
  · exact ⟨k, t, e⟩
  · obtain ⟨lo, hi, hb, hN, hw⟩ := nr.b
    obtain ⟨D1, D2, D3, D4, D5⟩ := D
    simp only at e
    subst e
    obtain ⟨u, hu⟩ := times_end okG okT hb hN hw (by have n1 : 1 ≤ D5 := n1; show 0 ≤ D5; omega) (R.cut (lo + off D1 (.times b) (D1.length + N + D3.length + 2))) (Int.le_refl _) hcn hc
    exact absurd (List.mem_filter.mp hu).1 (hn u)
theorem near30 {gs : List Int} {tl : Tl} {bs : List Int} {ws : List (Int × Int)} {n : Int} (hb : ∀ b ∈ bs, 0 ≤ b ∧ b < 40) (hw : ∀ p ∈ ws, -10 ≤ p.1 ∧ p.2 ≤ 100) (hn : n ≤ 8) : Near ⟨gs, tl, bs, ws, n⟩ 7 := by
  refine ⟨⟨0, 39, fun c hc => ?_, ?_, fun w h => ?_⟩, by decide⟩
  · have hc : c < bs.length := hc
    have := hb (bs.getD c 0) (by rw [List.getD_eq_getElem?_getD, List.getElem?_eq_getElem hc]; exact List.getElem_mem hc)
    exact ⟨this.1, by show bs.getD c 0 ≤ 39; omega⟩
  · show (39 : Int) - 0 + n < 2 ^ 7
    have e : (2 : Int) ^ 7 = 128 := by decide
    rw [e]
    omega
  · have := (hw w h).2
    have e : (2 : Int) ^ 7 = 128 := by decide
    rw [e]
    omega
theorem last_two {α : Type} : ∀ {l : List α} {m : Nat} {x y : α}, l.length = m + 2 → l[m]? = some x → l[m + 1]? = some y → (l.drop m).take 2 = [x, y]
  | [], _, _, _, h, _, _ => nomatch h
  | a :: l, 0, x, y, h, h1, h2 => by
    cases h1
    cases l with
    | nil => cases h2
    | cons b l => cases h2; rfl
  | a :: l, m + 1, x, y, h, h1, h2 => by
    have h : l.length = m + 2 := Nat.succ.inj h
    exact last_two (l := l) (m := m) h h1 h2
theorem cut_two {xs : List V} {m : Nat} (h : xs.length = m + 2) : cutV xs (some (-2)) none = (xs.drop m).take 2 := by
  have e : HT.sIx xs.length 0 (some (-2 : Int)) = m := by
    show (if (-2 : Int) < 0 then (-2 + (xs.length : Int)).toNat else min (-2 : Int).toNat xs.length) = m
    rw [if_pos (by omega)]
    omega
  unfold cutV
  rw [e, HT.sIx_none, h, show m + 2 - m = 2 by omega]
def failD (tl : Tl) : PyData := .list [ocD (failO tl), ocD (failO tl)]
theorem failD_shaped (tl : Tl) : SeqAt.shaped (failD tl) = true := by
  have e1 : SeqAt.shaped (.list [ocD .never, ocD .never]) = true := by decide +kernel
  have e2 : SeqAt.shaped (.list [ocD .ended, ocD .ended]) = true := by decide +kernel
  cases tl with
  | fin => exact e2
  | times b => exact e1
  | rep m => exact e1
theorem failD_eqv (tl : Tl) : PyData.eqv (failD tl) (failD tl) = true := by
  have e1 : PyData.eqv (.list [ocD .never, ocD .never]) (.list [ocD .never, ocD .never]) = true := by decide +kernel
  have e2 : PyData.eqv (.list [ocD .ended, ocD .ended]) (.list [ocD .ended, ocD .ended]) = true := by decide +kernel
  cases tl with
  | fin => exact e2
  | times b => exact e1
  | rep m => exact e1
theorem failD_dp {K : PySem.W.Frag} {H : Hp} {l r r' : Addr} {tl : Tl} (h : H l = some (.lst [.ref r, .ref r'])) (h1 : H r = some (.tup (failO tl).vs)) (h2 : H r' = some (.tup (failO tl).vs)) : Dp K H (.ref l) (failD tl) :=
  .lst (SqL.of h) (.cons (ocD_dp h1) (.cons (ocD_dp h2) .nil))
end RS
namespace RS
open PySem L2
theorem pre_nn {gs : List Int} (ok : GapsOk gs) {k : Nat} (h : k ≤ gs.length) : 0 ≤ pre gs k := by
  have := pre_mono ok 0 k (by omega)
  rw [pre_zero, Nat.zero_add] at this
  omega
theorem oc_list {D : ScD} {S : List (Int × Nat)} {H : Hp} {us : List Addr} {ocs : List Oc} (o : OcsAt H us D S ocs) {j : Nat} (h : j < ocs.length) : ∃ x, ocs[j]? = some x ∧ IsOc D S j x := ⟨_, List.getElem?_eq_getElem h, (o.at_ j _ (List.getElem?_eq_getElem h)).1⟩
/-! ### lists of outcomes as data -/
def ocsD (os : List Oc) : List PyData := os.map ocD
theorem ocs_can : ∀ os : List Oc, PyData.canLayAll0 (ocsD os) = true
  | [] => rfl
  | x :: r => by
    show (PyData.canLay0 (ocD x) && PyData.canLayAll0 (ocsD r)) = true
    rw [ocD_can, ocs_can r]
    rfl
theorem ocs_depth : ∀ os : List Oc, PyData.depthAll (ocsD os) ≤ 2
  | [] => by show 0 ≤ 2; decide
  | x :: r => by
    have h1 := ocD_depth x
    have h2 := ocs_depth r
    show max (PyData.depth (ocD x)) (PyData.depthAll (ocsD r)) ≤ 2
    omega
theorem ocs_shaped (os : List Oc) : SeqAt.shaped (.list (ocsD os)) = true := by
  have h1 := ocs_can os
  have h2 := ocs_depth os
  show (PyData.canLayAll0 (ocsD os) && decide (PyData.depthAll (ocsD os) + 1 ≤ 64)) = true
  rw [h1, decide_eq_true (by omega)]
  rfl
theorem ocs_eqv : ∀ os : List Oc, PyData.eqvAll (ocsD os) (ocsD os) = true
  | [] => rfl
  | x :: r => by
    have h1 := ocD_eqv x x
    have h2 := ocs_eqv r
    show (PyData.eqv (ocD x) (ocD x) && PyData.eqvAll (ocsD r) (ocsD r)) = true
    rw [h1, h2, decide_eq_true rfl]
    rfl
theorem ocs_eqvL (os : List Oc) : PyData.eqv (.list (ocsD os)) (.list (ocsD os)) = true := ocs_eqv os
/-- addresses of outcomes -/
def OcL (H : Hp) (us : List Addr) (os : List Oc) : Prop := us.length = os.length ∧ ∀ (j : Nat) (x : Oc), os[j]? = some x → ∃ r, us[j]? = some r ∧ H r = some (.tup x.vs)
theorem OcsAt.l {H : Hp} {us : List Addr} {D : ScD} {S : List (Int × Nat)} {ocs : List Oc} (h : OcsAt H us D S ocs) : OcL H us ocs := ⟨h.ul, fun j x e => (h.at_ j x e).2⟩
theorem OcL.same {H H' : Hp} {us : List Addr} {os : List Oc} (h : OcL H us os) (s : Same H H') : OcL H' us os := ⟨h.1, fun j x e => let ⟨r, a, b⟩ := h.2 j x e; ⟨r, a, s _ _ b⟩⟩
theorem OcL.dps {K : PySem.W.Frag} {H : Hp} : ∀ {us : List Addr} {os : List Oc}, OcL H us os → DpAll K H (us.map V.ref) (ocsD os)
  | [], [], _ => .nil
  | [], _ :: _, h => nomatch h.1
  | _ :: _, [], h => nomatch h.1
  | u :: us, x :: os, h => by
    obtain ⟨r, e, hr⟩ := h.2 0 x rfl
    cases e
    exact .cons (ocD_dp hr) (OcL.dps ⟨Nat.succ.inj h.1, fun j y e => h.2 (j + 1) y e⟩)
theorem OcL.dp {K : PySem.W.Frag} {H : Hp} {q : Addr} {us : List Addr} {os : List Oc} (h : OcL H us os) (hq : H q = some (.lst (us.map V.ref))) : Dp K H (.ref q) (.list (ocsD os)) := .lst (SqL.of hq) h.dps
theorem OcL.kx {H H' : Hp} {a : Addr} {b : Nat} {us : List Addr} {os : List Oc} (h : OcL H us os) (Sr : Src H a b) (k : Kx a H H') : OcL H' us os := ⟨h.1, fun j x e => by
  obtain ⟨r, e1, e2⟩ := h.2 j x e
  refine ⟨r, e1, k _ _ (fun z => ?_) e2⟩
  obtain ⟨s0, s1, s2, h, _⟩ := Sr.ex
  rw [z, h] at e2
  cases e2⟩
theorem OcL.off {H : Hp} {D : Addr} {vs ws : List V} {us : List Addr} {os : List Oc} (h : OcL H us os) (hD : H D = some (.lst vs)) : OcL (upd H D (.lst ws)) us os := ⟨h.1, fun j x e => by
  obtain ⟨r, e1, e2⟩ := h.2 j x e
  exact ⟨r, e1, by rw [upd_ne (fun z => by rw [z, hD] at e2; cases e2)]; exact e2⟩⟩
theorem OcL.snoc {H : Hp} {us : List Addr} {os : List Oc} {m : Nat} {x : Oc} {r : Addr} (h : OcL H us (os.take m)) (om : os[m]? = some x) (hr : H r = some (.tup x.vs)) : OcL H (us ++ [r]) (os.take (m + 1)) := by
  have hm := (List.getElem?_eq_some_iff.mp om).1
  have lu : us.length = m := by rw [h.1, List.length_take]; omega
  have e : os.take (m + 1) = os.take m ++ [x] := by rw [List.take_add_one, om]; rfl
  rw [e]
  refine ⟨by rw [List.length_append, List.length_append, h.1]; rfl, fun j y ey => ?_⟩
  by_cases hj : j < m
  · rw [List.getElem?_append_left (by rw [List.length_take]; omega)] at ey
    obtain ⟨r', e1, e2⟩ := h.2 j y ey
    exact ⟨r', by rw [List.getElem?_append_left (by omega)]; exact e1, e2⟩
  · rw [List.getElem?_append_right (by rw [List.length_take]; omega), List.length_take, Nat.min_eq_left (by omega)] at ey
    have : j - m = 0 := Classical.byContradiction fun z => by
      rw [List.getElem?_eq_none (by show 1 ≤ j - m; omega)] at ey
      cases ey
    have : j = m := by omega
    subst this
    rw [Nat.sub_self] at ey
    cases ey
    exact ⟨r, by rw [List.getElem?_append_right (by omega), lu, Nat.sub_self]; rfl, hr⟩
theorem OcL.take {H : Hp} {us : List Addr} {os : List Oc} (h : OcL H us os) (m : Nat) : OcL H (us.take m) (os.take m) := ⟨by rw [List.length_take, List.length_take, h.1], fun j x e => by
  have hj : j < m := Classical.byContradiction fun z => by
    rw [List.getElem?_eq_none (by rw [List.length_take]; omega)] at e
    cases e
  rw [List.getElem?_take_of_lt hj] at e ⊢
  exact h.2 j x e⟩
theorem cut_lessR (xs : List V) (h : 0 < xs.length) : cutV xs none (some (-1)) = xs.take (xs.length - 1) := by
  unfold cutV HT.sIx
  simp
  congr 1
  omega
theorem near27 {gs : List Int} {tl : Tl} {bs : List Int} {ws : List (Int × Int)} {n B : Int} {N : Nat} (hb : ∀ b ∈ bs, 0 ≤ b ∧ b ≤ B) (hw : ∀ p ∈ ws, -10 ≤ p.1 ∧ p.2 ≤ 100) (hn : n ≤ 8) (hB : B + 8 < 2 ^ N) (h100 : (100 : Int) ≤ 2 ^ N) (hN : N ≤ 1000) : Near ⟨gs, tl, bs, ws, n⟩ N := by
  refine ⟨⟨0, B, fun c hc => ?_, ?_, fun w h => ?_⟩, hN⟩
  · have hc : c < bs.length := hc
    exact hb (bs.getD c 0) (by rw [List.getD_eq_getElem?_getD, List.getElem?_eq_getElem hc]; exact List.getElem_mem hc)
  · show B - 0 + n < 2 ^ N
    omega
  · have := (hw w h).2
    omega
end RS
namespace RS
open PySem L2
/-! ### services told by attempts; residues of clients that are never served -/
theorem filter_one {n c : Nat} {p : Nat → Bool} (hc : c < n) (h1 : p c = true) (h2 : ∀ k, k < n → p k = true → k = c) : (List.range n).filter p = [c] := by
  refine pw_ext (r := fun x y : Nat => x < y) (fun x => Nat.lt_irrefl x) (fun x y z => by omega) (List.pairwise_lt_range.filter _) (List.pairwise_singleton ..) fun x => ?_
  rw [List.mem_filter, List.mem_range, List.mem_singleton]
  exact ⟨fun h => h2 x h.1 h.2, fun e => by rw [e]; exact ⟨hc, h1⟩⟩
theorem att_served {D : ScD} {S : List (Int × Nat)} (okG : GapsOk D.gs) (okT : TlOk D.gs.length D.tl) (h : RunS D.gs D.tl D.bs D.ws D.ln S) {t : Int} {c : Nat} (hc : (t, c) ∈ S) : attLs D S t = [c] := by
  have x := (h.is t c).mp hc
  unfold attLs actL
  rw [List.filter_filter]
  refine filter_one x.lt ?_ (fun k hk hp => ?_)
  · rw [Bool.and_eq_true]
    obtain ⟨i, hf, e⟩ := x.att
    refine ⟨attB_iff.mpr ⟨i, hf, by omega⟩, ?_⟩
    unfold actB
    rw [Bool.and_eq_true, Bool.and_eq_true]
    refine ⟨decide_eq_true (att_ge okG okT x.att), decide_eq_true fun p hp e => ?_, ?_⟩
    · have := run_once h (t := p.1) (u := t) (c := c) (by rw [← e]; exact hp) hc
      omega
    · obtain ⟨D1, D2, D3, D4, D5⟩ := D
      cases D2 with
      | times b => rfl
      | rep m => rfl
      | fin =>
        have hk := hf rfl
        have hk : i ≤ D1.length := hk
        have e : D3.getD c 0 + off D1 .fin i = t := e
        have mo := pre_mono okG i (D1.length - i) (by show i + (D1.length - i) ≤ D1.length; omega)
        have mo : pre D1 i + ((D1.length - i : Nat) : Int) ≤ pre D1 (i + (D1.length - i)) := mo
        rw [show i + (D1.length - i) = D1.length by omega] at mo
        rw [off_low hk] at e
        refine decide_eq_true ?_
        show t - D3.getD c 0 ≤ pre D1 D1.length
        omega
  · rw [Bool.and_eq_true] at hp
    obtain ⟨ha, hb⟩ := hp
    obtain ⟨i, hf, e⟩ := attB_iff.mp ha
    refine Classical.byContradiction fun ne => ?_
    obtain ⟨u, hu, hs⟩ := x.one k hk ne ⟨i, hf, by omega⟩
    unfold actB at hb
    rw [Bool.and_eq_true, Bool.and_eq_true] at hb
    have := of_decide_eq_true hb.2.1 (u, k) hs rfl
    simp only at this
    omega
theorem ev_served {D : ScD} {S : List (Int × Nat)} (okG : GapsOk D.gs) (okT : TlOk D.gs.length D.tl) (h : RunS D.gs D.tl D.bs D.ws D.ln S) {t : Int} {c : Nat} (hc : (t, c) ∈ S) {q : Addr} {xs : List V} (e : EvAt D S t q xs) : xs = [.str "served", .int (c : Int)] := by
  have x := (h.is t c).mp hc
  have al := att_served okG okT h hc
  cases e with
  | out j w f1 f2 f3 => exact absurd ⟨w, List.mem_of_getElem? f1, f2, f3⟩ x.out
  | busy k b n f1 f2 f3 => exact absurd ⟨_, f1, f2, f3⟩ x.busy
  | met _ _ l =>
    rw [al] at l
    exact absurd l (by show ¬ 1 < 1; decide)
  | served k _ _ g =>
    rw [al] at g
    cases g
    rfl
  | idle _ _ g =>
    rw [al] at g
    cases g
theorem bound_of : ∀ l : List Int, ∃ B : Int, ∀ x ∈ l, x ≤ B
  | [] => ⟨0, fun _ h => nomatch h⟩
  | x :: r => by
    obtain ⟨B, h⟩ := bound_of r
    refine ⟨max x B, fun y hy => ?_⟩
    rcases List.mem_cons.mp hy with e | hy
    · subst e
      exact Int.le_max_left ..
    · have := h y hy
      exact Int.le_trans this (Int.le_max_right ..)
theorem res_never {gs : List Int} {m : Nat} {bs : List Int} {ws : List (Int × Int)} {ℓ : Int} {S : List (Int × Nat)} (okG : GapsOk gs) (okT : TlOk gs.length (.rep m)) (h : RunS gs (.rep m) bs ws ℓ S) {c : Nat} (hc : c < bs.length) (nv : ∀ t, (t, c) ∉ S) {r : Int} (hr : r ∈ resid gs m (bs.getD c 0)) : ∃ c', c' < bs.length ∧ c' ≠ c ∧ (∀ t, (t, c') ∉ S) ∧ r ∈ resid gs m (bs.getD c' 0) := by
  have h1 : 1 ≤ m := okT.1
  have h2 : m ≤ gs.length := okT.2
  have pp := (per_bd okG h1 h2).1
  obtain ⟨B1, b1⟩ := bound_of (bs.map fun b => b + pre gs (gs.length - m))
  obtain ⟨B2, b2⟩ := bound_of (ws.map fun w => w.2)
  obtain ⟨B3, b3⟩ := bound_of (S.map fun p => p.1 + ℓ)
  obtain ⟨B4, b4⟩ := bound_of (S.map fun p => p.1 + 1)
  obtain ⟨N, n1, n2, n3, n4⟩ : ∃ N : Nat, B1 ≤ N ∧ B2 ≤ N ∧ B3 ≤ N ∧ B4 ≤ N := ⟨(B1.toNat + B2.toNat) + (B3.toNat + B4.toNat), by omega, by omega, by omega, by omega⟩
  have rr : 0 ≤ r ∧ r < per gs m := by
    obtain ⟨x, _, rfl⟩ := List.mem_map.mp hr
    exact ⟨Int.emod_nonneg _ (by omega), Int.emod_lt_of_pos _ (by omega)⟩
  have tN : (N : Int) ≤ r + per gs m * (N : Int) := by
    have := Int.mul_le_mul_of_nonneg_right (show (1 : Int) ≤ per gs m by omega) (show (0 : Int) ≤ (N : Int) by omega)
    omega
  have tm : (r + per gs m * (N : Int)) % per gs m = r := by rw [Int.add_mul_emod_self_left]; exact Int.emod_eq_of_lt rr.1 rr.2
  generalize r + per gs m * (N : Int) = t at tN tm
  have at_ : ∀ d, d < bs.length → (Att gs (.rep m) (bs.getD d 0) t ↔ r ∈ resid gs m (bs.getD d 0)) := fun d hd => by
    have := b1 _ (List.mem_map.mpr ⟨_, List.mem_of_getElem? (getD_get hd), rfl⟩)
    rw [res_att okG okT (by omega), tm]
  refine Classical.byContradiction fun no => nv t ((h.is t c).mpr ⟨hc, (at_ c hc).mpr hr, fun ⟨u, _, z⟩ => nv u z, fun ⟨w, hw, _, z⟩ => ?_, fun ⟨p, hp, _, z⟩ => ?_, fun d hd ne ha => ?_⟩)
  · have := b2 _ (List.mem_map.mpr ⟨w, hw, rfl⟩)
    omega
  · have := b3 _ (List.mem_map.mpr ⟨p, hp, rfl⟩)
    omega
  · refine Classical.byContradiction fun ns => no ⟨d, hd, ne, fun u hu => ns ⟨u, ?_, hu⟩, (at_ d hd).mp ha⟩
    have := b4 _ (List.mem_map.mpr ⟨_, hu, rfl⟩)
    simp only at this
    omega
/-- what a drawn long rule's parts may be -/
structure LongOk (gs : List Int) (m : Nat) (bs : List Int) (ws : List (Int × Int)) (n : Int) : Prop where
  l1 : 1 ≤ gs.length
  l8 : gs.length ≤ 8
  gb : ∀ g ∈ gs, 1 ≤ g ∧ g ≤ 102000000000
  m1 : 1 ≤ m
  ml : m ≤ gs.length
  b1 : 1 ≤ bs.length
  b6 : bs.length ≤ 6
  bb : ∀ b ∈ bs, 0 ≤ b ∧ b ≤ 900000000000
  wo : WinOk ws
  w3 : ws.length ≤ 3
  wb : ∀ p ∈ ws, -10 ≤ p.1 ∧ p.2 ≤ 100
  n1 : 1 ≤ n
  n8 : n ≤ 8
theorem LongOk.okG {gs : List Int} {m : Nat} {bs : List Int} {ws : List (Int × Int)} {n : Int} (ok : LongOk gs m bs ws n) : GapsOk gs := ⟨by have := ok.l8; omega, fun g hg => by have := ok.gb g hg; omega⟩
theorem LongOk.okT {gs : List Int} {m : Nat} {bs : List Int} {ws : List (Int × Int)} {n : Int} (ok : LongOk gs m bs ws n) : TlOk gs.length (.rep m) := ⟨ok.m1, ok.ml⟩
theorem LongOk.near {gs : List Int} {m : Nat} {bs : List Int} {ws : List (Int × Int)} {n : Int} (ok : LongOk gs m bs ws n) : Near ⟨gs, .rep m, bs, ws, n⟩ 41 := by
  have e : (2 : Int) ^ 41 = 2199023255552 := by decide
  have := ok.n8
  refine ⟨⟨0, 900000000000, fun c hc => ?_, ?_, fun w h => ?_⟩, by decide⟩
  · have hc : c < bs.length := hc
    exact ok.bb _ (List.mem_of_getElem? (getD_get hc))
  · show 900000000000 - 0 + n < 2 ^ 41
    omega
  · have := (ok.wb w h).2
    omega
/-- the gaps that repeat, added up -/
theorem last_sum {gs : List Int} {m : Nat} (h2 : m ≤ gs.length) : (gs.drop (gs.length - m)).sum = per gs m := by
  have e := sum_take_drop gs (gs.length - m)
  have e2 : gs.sum = pre gs gs.length := by unfold pre; rw [List.take_length]
  unfold per
  unfold pre at e2 ⊢
  omega
theorem last_get {gs : List Int} {m i : Nat} (h2 : m ≤ gs.length) (hi : i < m) : (gs.drop (gs.length - m))[i]? = some (gs.getD (gs.length - m + i) 0) := by
  rw [List.getElem?_drop]
  exact getD_get (by omega)
theorem res_get {gs : List Int} {m : Nat} (b : Int) {i : Nat} (hi : i < m) : (resid gs m b)[i]? = some ((b + pre gs (gs.length - m + i)) % per gs m) := by
  unfold resid repOffs
  rw [List.getElem?_map, List.getElem?_map, List.getElem?_range hi]
  rfl
/-- has a repeating rule an attempt at a distance: by the listed gaps, and by the rest behind them -/
theorem has_low {gs : List Int} {m : Nat} (okG : GapsOk gs) (h1 : 1 ≤ m) (h2 : m ≤ gs.length) {d : Int} (hd : d ≤ pre gs gs.length) : (∃ k : Nat, off gs (.rep m) k = d) ↔ ∃ k : Nat, k ≤ gs.length ∧ pre gs k = d := by
  have okT : TlOk gs.length (.rep m) := ⟨h1, h2⟩
  constructor
  · rintro ⟨k, e⟩
    rcases Nat.lt_or_ge gs.length k with z | z
    · have := off_lt okG okT z (fun e => nomatch e)
      rw [off_low (Nat.le_refl _)] at this
      omega
    · exact ⟨k, z, by rw [← off_low z]; exact e⟩
  · rintro ⟨k, z, e⟩
    exact ⟨k, by rw [off_low z]; exact e⟩
theorem has_rep {gs : List Int} {m : Nat} (okG : GapsOk gs) (h1 : 1 ≤ m) (h2 : m ≤ gs.length) {d : Int} (hd : pre gs gs.length < d) : (∃ k : Nat, off gs (.rep m) k = d) ↔ ∃ i : Nat, i < m ∧ pre gs (gs.length - m + i) - pre gs (gs.length - m) = (d - pre gs gs.length) % per gs m := by
  have okT : TlOk gs.length (.rep m) := ⟨h1, h2⟩
  have pp := (per_bd okG h1 h2).1
  have part : ∀ i, i < m → 0 ≤ pre gs (gs.length - m + i) - pre gs (gs.length - m) ∧ pre gs (gs.length - m + i) - pre gs (gs.length - m) < per gs m := fun i hi => by
    have a := pre_mono okG (gs.length - m) i (by omega)
    have b := pre_mono okG (gs.length - m + i) (m - i) (by omega)
    rw [show gs.length - m + i + (m - i) = gs.length by omega] at b
    unfold per
    omega
  constructor
  · rintro ⟨k, e⟩
    have hk : gs.length ≤ k := Classical.byContradiction fun z => by
      rw [off_low (by omega)] at e
      have a := pre_mono okG k (gs.length - k) (by omega)
      rw [show k + (gs.length - k) = gs.length by omega] at a
      omega
    rw [off_rep h1 h2 hk] at e
    have hi : (k - gs.length) % m < m := Nat.mod_lt _ h1
    refine ⟨_, hi, ?_⟩
    have pt := part _ hi
    generalize pre gs (gs.length - m + (k - gs.length) % m) = x at e pt
    generalize (((k - gs.length) / m : Nat) : Int) = y at e
    have e2 : d - pre gs gs.length = (x - pre gs (gs.length - m)) + per gs m * y := by
      rw [← e, Int.mul_comm (per gs m) y]
      have : pre gs gs.length = per gs m + pre gs (gs.length - m) := by unfold per; omega
      rw [Int.add_mul, Int.one_mul]
      omega
    rw [e2, Int.add_mul_emod_self_left]
    exact (Int.emod_eq_of_lt pt.1 pt.2).symm
  · rintro ⟨i, hi, e⟩
    have dv := Int.emod_add_mul_ediv (d - pre gs gs.length) (per gs m)
    have q0 : 0 ≤ (d - pre gs gs.length) / per gs m := Int.ediv_nonneg (by omega) (by omega)
    obtain ⟨q, hq⟩ := Int.eq_ofNat_of_zero_le q0
    rw [hq, ← e] at dv
    refine ⟨gs.length + (i + m * q), ?_⟩
    rw [off_rep h1 h2 (by omega), show gs.length + (i + m * q) - gs.length = i + m * q by omega, Nat.add_mul_mod_self_left, Nat.mod_eq_of_lt hi, Nat.add_mul_div_left _ _ h1, Nat.div_eq_of_lt hi, Nat.zero_add]
    have : pre gs gs.length = per gs m + pre gs (gs.length - m) := by unfold per; omega
    rw [Int.add_mul, Int.one_mul, Int.mul_comm (q : Int)]
    omega
end RS
namespace RS
open PySem L2
section
variable {P : Program} {w : World} {K : PySem.W.Frag} {mg : Str → Option Value} {base : Heap}
/-! ### _law_residues -/
def spRes : Sp := fun vs H Q _ => ∃ (a u g t s wl : Addr) (n : Int) (gs : List Int) (m : Nat) (bs : List Int) (rs : List V) (ws : List (Int × Int)) (c : Nat), vs = [.ref u, .int (c : Int)] ∧ Parts a H u g t s wl n gs (.rep m) bs rs ws ∧ GapsOk gs ∧ 1 ≤ m ∧ m ≤ gs.length ∧ c < bs.length ∧
  ∀ q H', H q = none → Same H H' → H' q = some (.lst ((resid gs m (bs.getD c 0)).map V.int)) → Q (.ref q) H'
def resN : List Str := ["_law_parts", "_law_client", "_law_steps", "_law_ending", "_law_begins", "_law_windows_here", "_law_long_here", "_law_last", "_law_place", "_law_found", "_law_gap"]
theorem scRes : FnScope resN ["_law_parts", "_law_client"] (defScope s_law_residues) := ⟨rfl, rfl, rfl, by decide +kernel, rfl, by decide +kernel, by decide +kernel⟩
theorem ok_res {f C : Addr} {fd : FuncData} (F : Fun K "_law_residues" "_law_residues" s_law_residues f fd) (T : Txt K mg C) : FnOk P w K mg base CX0 1 f fd ["_law_parts", "_law_client"] spRes := by
  refine F.ok scRes (fun vs H Q E h => ?_) (fun cdv A outer s H vs Q E hr h => ?_)
  · obtain ⟨a, u, g, t, s, wl, n, gs, m, bs, rs, ws, c, rfl, _⟩ := h
    rfl
  · obtain ⟨a, u, g, t, sb, wl, n, gs, m, bs, rs, ws, c, rfl, B, okG, m1, ml, hc, k⟩ := h
    refine ⟨_, (pss_cons (ps_asg (pv 0) (pg_tup rfl (pgs_cons (pg_name (i := 2) scRes.nd rfl (Or.inl rfl)) (pgs_cons (pg_name (i := 3) scRes.nd rfl (Or.inl rfl)) (pgs_cons (pg_name (i := 4) scRes.nd rfl (Or.inl rfl)) (pgs_cons (pg_name (i := 5) scRes.nd rfl (Or.inl rfl)) (pgs_cons (pg_name (i := 6) scRes.nd rfl (Or.inl rfl)) pgs_nil))))))) (pss_cons (ps_set (i := 7) scRes.nd rfl (Or.inl rfl) (pe_slice sl_list (pv 2) (po_some (pe_op op_sub (pe_callB call_len_seq (by rfl) T.len (by decide +kernel) (pa_cons (pv 2) pa_nil)) (pe_ix ix_tup (pv 3) pe_int (fun _ _ => rfl)))) po_none)) (pss_cons (ps_par (i := 8) (j := 9) (by rfl) scRes.nd rfl rfl (by decide) rfl rfl (pa_cons (pe_op op_add (pe_ix ix_list (pv 4) (pv 1) (fun _ _ => rfl)) (pe_callB (cr_sum rfl) (by rfl) T.sum (by decide +kernel) (pa_cons (pv 2) pa_nil))) (pa_cons (pe_lst pa_nil) pa_nil)) (by rfl)) (pss_cons (ps_for PassesOwn.never rfl (pi_list (pv 7)) (pg_name (i := 10) scRes.nd rfl (Or.inl rfl)) (pss_cons (ps_expr (pe_bm PySem.F.plainAttrs_list PySem.F.slot_list_append PySem.F.type_list_append mt_append (pv 9) (pa_cons (pe_op op_mod (pe_callTy call_int1 (by rfl) T.int (by decide +kernel) (pa_cons (pv 8) pa_nil)) (pe_callB (cr_sum rfl) (by rfl) T.sum (by decide +kernel) (pa_cons (pv 7) pa_nil))) pa_nil))) (pss_one (ps_set (i := 8) scRes.nd rfl (Or.inl rfl) (pe_op op_add (pv 8) (pv 10)))))) (pss_one (ps_ret (pv 9))))))), ?_⟩
    have pp := (per_bd okG m1 ml).1
    have l20 := okG.1
    refine ⟨_, rfl, u, _, rfl, SqT.of B.hu, rfl, _, _, rfl, _, _, rfl, _, _, rfl, _, _, rfl, _, _, rfl, rfl, ?_⟩
    refine ⟨_, rfl, _, rfl, g, _, rfl, .inl (SqL.of B.hg), _, rfl, t, _, _, _, rfl, rfl, SqT.of B.ht, atI_nat (j := 1) rfl, _, _, rfl, rfl, _, rfl, g, _, rfl, SqL.of B.hg, fun q7 hq7 => ?_⟩
    have S7 := same_new (o := .lst (cutV (gs.map V.int) (some (((gs.map V.int).length : Int) - (m : Int))) none)) hq7
    have h7 : (upd H q7 (.lst (cutV (gs.map V.int) (some (((gs.map V.int).length : Int) - (m : Int))) none))) q7 = some (.lst ((gs.drop (gs.length - m)).map V.int)) := by
      rw [upd_same, List.length_map, show ((gs.length : Int) - (m : Int)) = ((gs.length - m : Nat) : Int) by omega, cut_from _ (by rw [List.length_map]; omega), List.map_drop]
    generalize upd H q7 (.lst (cutV (gs.map V.int) (some (((gs.map V.int).length : Int) - (m : Int))) none)) = H7 at S7 h7
    have B7 := B.kx (Kx.of S7)
    refine ⟨_, rfl, _, rfl, sb, _, _, .int (bs.getD c 0), rfl, rfl, SqL.of B7.hs, at_map (getD_get hc), ?_⟩
    refine ⟨_, rfl, g, gs, rfl, SqL.of B7.hg, _, _, rfl, rfl, (by show 0 ≤ sizeLine; decide), fun D hD => ⟨_, _, rfl, ?_⟩⟩
    have S8 := same_new (o := .lst ([] : List V)) hD
    have hDH : H D = none := S7.free hD
    have nq7D : q7 ≠ D := ne_of_none h7 hD
    have ll : (gs.drop (gs.length - m)).length = m := by rw [List.length_drop]; omega
    have sg : gs.sum = pre gs gs.length := by unfold pre; rw [List.take_length]
    refine ⟨_, rfl, q7, rfl, ⟨_, SqL.of (S8 _ _ h7)⟩, for_list (a := q7) (xs := (gs.drop (gs.length - m)).map V.int) (fun i σ H' => ∃ v10, σ = [some (.ref u), some (.int (c : Int)), some (.ref g), some (.ref t), some (.ref sb), some (.ref wl), some (.int n), some (.ref q7), some (.int (bs.getD c 0 + gs.sum + (pre gs (gs.length - m + i) - pre gs (gs.length - m)))), some (.ref D), v10] ∧ Same H H' ∧ H' q7 = some (.lst ((gs.drop (gs.length - m)).map V.int)) ∧ H' D = some (.lst (((resid gs m (bs.getD c 0)).take i).map V.int))) ⟨none, ?_, S7.trans S8, S8 _ _ h7, upd_same⟩ (fun i σ H' _ z => by obtain ⟨_, _, _, h, _⟩ := z; exact SqL.of h) ?_ ?_⟩
    · rw [Nat.add_zero, Int.sub_self, Int.add_zero]
      rfl
    · rintro i x σ H1 hx ⟨v10, rfl, S1, h71, hD1⟩
      obtain ⟨y, hy, rfl⟩ := map_of hx
      have hi : i < m := by have := (List.getElem?_eq_some_iff.mp hy).1; omega
      rw [last_get ml hi] at hy
      obtain rfl := Option.some.inj hy
      have lr : ((resid gs m (bs.getD c 0)).take i).length = i := by rw [List.length_take, resid_len]; omega
      have ev : (bs.getD c 0 + gs.sum + (pre gs (gs.length - m + i) - pre gs (gs.length - m))) % (gs.drop (gs.length - m)).sum = (bs.getD c 0 + pre gs (gs.length - m + i)) % per gs m := by
        rw [last_sum ml, sg, show bs.getD c 0 + pre gs gs.length + (pre gs (gs.length - m + i) - pre gs (gs.length - m)) = bs.getD c 0 + pre gs (gs.length - m + i) + per gs m by unfold per; omega, Int.add_emod_right]
      refine ⟨_, rfl, .inl ⟨rfl, _, SqL.of hD1⟩, _, rfl, .inl ⟨_, rfl, _, rfl, q7, _, rfl, SqL.of h71, _, _, rfl, rfl, by rw [last_sum ml]; omega, D, _, _, rfl, rfl, hD1, by rw [List.length_map, lr]; exact small1000 (by omega), ?_⟩⟩
      refine ⟨_, rfl, _, rfl, _, _, rfl, rfl, some (.int (gs.getD (gs.length - m + i) 0)), ?_, fun b o e => by rw [upd_ne (ne_of_none e hDH)]; exact S1 b o e, by rw [upd_ne nq7D]; exact h71, ?_⟩
      · have e2 := pre_succD (gs := gs) (k := gs.length - m + i) (by omega)
        rw [show gs.length - m + (i + 1) = gs.length - m + i + 1 by omega, e2, show bs.getD c 0 + gs.sum + (pre gs (gs.length - m + i) + gs.getD (gs.length - m + i) 0 - pre gs (gs.length - m)) = bs.getD c 0 + gs.sum + (pre gs (gs.length - m + i) - pre gs (gs.length - m)) + gs.getD (gs.length - m + i) 0 by omega]
        rfl
      · rw [upd_same, List.take_add_one, res_get _ hi, List.map_append]
        show some (HO.lst (_ ++ [V.int ((bs.getD c 0 + gs.sum + (pre gs (gs.length - m + i) - pre gs (gs.length - m))) % (gs.drop (gs.length - m)).sum)])) = _
        rw [ev]
        rfl
    · rintro σ H1 ⟨v10, rfl, S1, h71, hD1⟩
      rw [List.length_map, ll, List.take_of_length_le (by rw [resid_len]; omega)] at hD1
      exact ⟨_, rfl, k D H1 hDH S1 hD1⟩
/-! ### _law_has -/
def spHas : Sp := fun vs H Q _ => ∃ (g t : Addr) (gs : List Int) (m : Nat) (d : Int), vs = [.ref g, .ref t, .int d] ∧ H g = some (.lst (gs.map V.int)) ∧ H t = some (.tup (Tl.rep m).vs) ∧ GapsOk gs ∧ 1 ≤ m ∧ m ≤ gs.length ∧
  ∀ b H', Same H H' → (b = true ↔ ∃ k : Nat, off gs (.rep m) k = d) → Q (.bl b) H'
def hasN : List Str := ["_law_steps", "_law_ending", "_law_distance", "_law_place", "_law_gap", "_law_last", "_law_rest", "_law_partial"]
theorem scHas : FnScope hasN ["_law_steps", "_law_ending", "_law_distance"] (defScope s_law_has) := ⟨rfl, rfl, rfl, by decide +kernel, rfl, by decide +kernel, by decide +kernel⟩
theorem ok_has {f C : Addr} {fd : FuncData} (F : Fun K "_law_has" "_law_has" s_law_has f fd) (T : Txt K mg C) : FnOk P w K mg base CX0 1 f fd ["_law_steps", "_law_ending", "_law_distance"] spHas := by
  refine F.ok scHas (fun vs H Q E h => ?_) (fun cdv A outer s H vs Q E hr h => ?_)
  · obtain ⟨g, t, gs, m, d, rfl, _⟩ := h
    rfl
  · obtain ⟨g, t, gs, m, d, rfl, hg, ht, okG, m1, ml, k⟩ := h
    refine ⟨_, (pss_cons (ps_set (i := 3) scHas.nd rfl (Or.inl rfl) pe_int) (pss_cons (ps_for PassesOwn.never rfl (pi_list (pv 0)) (pg_name (i := 4) scHas.nd rfl (Or.inl rfl)) (pss_cons (ps_if (pt_cmpR op_eq (pv 3) (pv 2) (nomark _)) (pss_one (ps_ret pe_bl)) pss_nil) (pss_one (ps_set (i := 3) scHas.nd rfl (Or.inl rfl) (pe_op op_add (pv 3) (pv 4)))))) (pss_cons (ps_if (PW.pt (pw_or (pt_cmpR op_eq (pe_ix ix_tup (pv 1) pe_int (fun _ _ => rfl)) pe_str (nomark _)) (pw_or1 (pt_cmpR op_ge (pv 3) (pv 2) (nomark _))))) (pss_one (ps_ret (pe_cmpR op_eq (pv 3) (pv 2) (nomark _)))) pss_nil) (pss_cons (ps_if (pt_cmpR op_eq (pe_ix ix_tup (pv 1) pe_int (fun _ _ => rfl)) pe_str (nomark _)) (pss_cons (ps_set (i := 5) scHas.nd rfl (Or.inl rfl) (pe_slice sl_list (pv 0) (po_some (pe_op op_sub (pe_callB call_len_seq (by rfl) T.len (by decide +kernel) (pa_cons (pv 0) pa_nil)) (pe_ix ix_tup (pv 1) pe_int (fun _ _ => rfl)))) po_none)) (pss_cons (ps_par (i := 6) (j := 7) (by rfl) scHas.nd rfl rfl (by decide) rfl rfl (pa_cons (pe_op op_mod (pe_callTy call_int1 (by rfl) T.int (by decide +kernel) (pa_cons (pe_op op_sub (pv 2) (pv 3)) pa_nil)) (pe_callB (cr_sum rfl) (by rfl) T.sum (by decide +kernel) (pa_cons (pv 5) pa_nil))) (pa_cons pe_int pa_nil)) (by rfl)) (pss_cons (ps_for PassesOwn.never rfl (pi_list (pv 5)) (pg_name (i := 4) scHas.nd rfl (Or.inl rfl)) (pss_cons (ps_if (pt_cmpR op_eq (pv 7) (pv 6) (nomark _)) (pss_one (ps_ret pe_bl)) pss_nil) (pss_one (ps_set (i := 7) scHas.nd rfl (Or.inl rfl) (pe_op op_add (pv 7) (pv 4)))))) (pss_one (ps_ret pe_bl))))) pss_nil) (pss_cons ps_never (pss_cons ps_never (pss_one ps_never))))))), ?_⟩
    have pp := (per_bd okG m1 ml).1
    refine ⟨_, rfl, g, rfl, ⟨_, SqL.of hg⟩, for_list (a := g) (xs := gs.map V.int) (fun i σ H' => (∃ v4, σ = [some (.ref g), some (.ref t), some (.int d), some (.int (pre gs i)), v4, none, none, none]) ∧ H' = H ∧ ∀ j, j < i → pre gs j ≠ d) ⟨⟨none, rfl⟩, rfl, fun j h => absurd h (Nat.not_lt_zero j)⟩ (fun i σ H' _ z => by rw [z.2.1]; exact SqL.of hg) ?_ ?_⟩
    · rintro i x σ H1 hx ⟨⟨v4, rfl⟩, rfl, no⟩
      obtain ⟨y, hy, rfl⟩ := map_of hx
      have hi := (List.getElem?_eq_some_iff.mp hy).1
      refine ⟨_, rfl, _, rfl, rfl, _, rfl, ?_⟩
      by_cases e : pre gs i = d
      · refine iteTb (decide_eq_true (by rw [e])) (k true _ (Same.refl _) ⟨fun _ => ⟨i, by rw [off_low (by omega)]; exact e⟩, fun _ => rfl⟩)
      · refine iteFb (decide_eq_false fun z => e (V.int.inj z)) ?_
        refine ⟨_, rfl, _, rfl, _, _, rfl, rfl, ⟨some (.int y), ?_⟩, rfl, fun j hj => ?_⟩
        · rw [pre_succ gs hy]
          rfl
        · rcases Nat.lt_or_eq_of_le (Nat.le_of_lt_succ hj) with h | h
          · exact no j h
          · rw [h]
            exact e
    · rintro σ H1 ⟨⟨v4, rfl⟩, rfl, no⟩
      rw [List.length_map] at no ⊢
      refine ⟨_, rfl, t, _, _, _, rfl, rfl, SqT.of ht, Tl.at0 _, rfl, _, rfl, ?_⟩
      refine iteFb wRE ?_
      refine ⟨_, rfl, _, rfl, _, _, rfl, rfl, _, rfl, ?_⟩
      by_cases hd : d ≤ pre gs gs.length
      · refine iteTb (decide_eq_true hd) ?_
        refine ⟨_, rfl, _, rfl, rfl, k _ _ (Same.refl _) ?_⟩
        rw [decide_eq_true_iff]
        constructor
        · intro e
          exact ⟨gs.length, by rw [off_low (Nat.le_refl _)]; exact V.int.inj e⟩
        · intro h
          obtain ⟨j, hj, e⟩ := (has_low okG m1 ml hd).mp h
          rcases Nat.lt_or_eq_of_le hj with z | z
          · exact absurd e (no j z)
          · rw [← z, e]
      · refine iteFb (decide_eq_false hd) ?_
        refine ⟨_, rfl, t, _, _, _, rfl, rfl, SqT.of ht, Tl.at0 _, rfl, _, rfl, ?_⟩
        refine iteTb wRR ?_
        refine ⟨_, rfl, _, rfl, g, _, rfl, .inl (SqL.of hg), _, rfl, t, _, _, _, rfl, rfl, SqT.of ht, atI_nat (j := 1) rfl, _, _, rfl, rfl, _, rfl, g, _, rfl, SqL.of hg, fun q5 hq5 => ?_⟩
        have S5 := same_new (o := .lst (cutV (gs.map V.int) (some (((gs.map V.int).length : Int) - (m : Int))) none)) hq5
        have h5 : (upd H1 q5 (.lst (cutV (gs.map V.int) (some (((gs.map V.int).length : Int) - (m : Int))) none))) q5 = some (.lst ((gs.drop (gs.length - m)).map V.int)) := by
          rw [upd_same, List.length_map, show ((gs.length : Int) - (m : Int)) = ((gs.length - m : Nat) : Int) by omega, cut_from _ (by rw [List.length_map]; omega), List.map_drop]
        generalize upd H1 q5 (.lst (cutV (gs.map V.int) (some (((gs.map V.int).length : Int) - (m : Int))) none)) = H5 at S5 h5
        refine ⟨_, rfl, _, rfl, _, _, rfl, rfl, .inl ⟨_, rfl, _, rfl, q5, _, rfl, SqL.of h5, _, _, rfl, rfl, by rw [last_sum ml]; omega, _, _, rfl, ?_⟩⟩
        have ll : (gs.drop (gs.length - m)).length = m := by rw [List.length_drop]; omega
        have hr := has_rep okG m1 ml (d := d) (by omega)
        refine ⟨_, rfl, q5, rfl, ⟨_, SqL.of h5⟩, for_list (a := q5) (xs := (gs.drop (gs.length - m)).map V.int) (fun i σ H' => (∃ v4, σ = [some (.ref g), some (.ref t), some (.int d), some (.int (pre gs gs.length)), v4, some (.ref q5), some (.int ((d - pre gs gs.length) % (gs.drop (gs.length - m)).sum)), some (.int (pre gs (gs.length - m + i) - pre gs (gs.length - m)))]) ∧ H' = H5 ∧ ∀ j, j < i → pre gs (gs.length - m + j) - pre gs (gs.length - m) ≠ (d - pre gs gs.length) % per gs m) ⟨⟨v4, ?_⟩, rfl, fun j h => absurd h (Nat.not_lt_zero j)⟩ (fun i σ H' _ z => by rw [z.2.1]; exact SqL.of h5) ?_ ?_⟩
        · rw [Nat.add_zero, Int.sub_self]
          rfl
        · rintro i x σ H6 hx ⟨⟨v4, rfl⟩, rfl, no2⟩
          obtain ⟨y, hy, rfl⟩ := map_of hx
          have hi : i < m := by have := (List.getElem?_eq_some_iff.mp hy).1; omega
          rw [last_get ml hi] at hy
          obtain rfl := Option.some.inj hy
          refine ⟨_, rfl, _, rfl, rfl, _, rfl, ?_⟩
          by_cases e : pre gs (gs.length - m + i) - pre gs (gs.length - m) = (d - pre gs gs.length) % per gs m
          · exact iteTb (decide_eq_true (by rw [last_sum ml, e])) (k true _ S5 ⟨fun _ => hr.mpr ⟨i, hi, e⟩, fun _ => rfl⟩)
          · refine iteFb (decide_eq_false fun z => e (by have z := V.int.inj z; rw [last_sum ml] at z; exact z)) ?_
            refine ⟨_, rfl, _, rfl, _, _, rfl, rfl, ⟨some (.int (gs.getD (gs.length - m + i) 0)), ?_⟩, rfl, fun j hj => ?_⟩
            · have e2 := pre_succD (gs := gs) (k := gs.length - m + i) (by omega)
              rw [show gs.length - m + (i + 1) = gs.length - m + i + 1 by omega, e2, show pre gs (gs.length - m + i) + gs.getD (gs.length - m + i) 0 - pre gs (gs.length - m) = pre gs (gs.length - m + i) - pre gs (gs.length - m) + gs.getD (gs.length - m + i) 0 by omega]
              rfl
            · rcases Nat.lt_or_eq_of_le (Nat.le_of_lt_succ hj) with h | h
              · exact no2 j h
              · rw [h]
                exact e
        · rintro σ H6 ⟨⟨v4, rfl⟩, rfl, no2⟩
          rw [List.length_map, ll] at no2
          refine k false _ S5 ⟨fun h => (nomatch h), fun h => ?_⟩
          obtain ⟨i, hi, e⟩ := hr.mp h
          exact absurd e (no2 i hi)
end
end RS
namespace RS
open PySem L2
/-! ### who is never served, as a list -/
def nevL (ocs : List Oc) (i : Nat) : List Nat := (List.range i).filter fun c => decide (ocs.getD c .ended = .never)
theorem nevL_succ (ocs : List Oc) (i : Nat) : nevL ocs (i + 1) = nevL ocs i ++ (if ocs.getD i .ended = .never then [i] else []) := by
  unfold nevL
  rw [List.range_succ, List.filter_append]
  congr 1
  by_cases h : ocs.getD i .ended = .never
  · rw [if_pos h, List.filter_cons, decide_eq_true h, if_pos rfl]
    rfl
  · rw [if_neg h, List.filter_cons, decide_eq_false h, if_neg (by decide)]
    rfl
theorem nevL_len (ocs : List Oc) (i : Nat) : (nevL ocs i).length ≤ i := by
  unfold nevL
  have := List.length_filter_le (fun c => decide (ocs.getD c .ended = .never)) (List.range i)
  rw [List.length_range] at this
  exact this
theorem nevL_mem {ocs : List Oc} {i c : Nat} : c ∈ nevL ocs i ↔ c < i ∧ ocs.getD c .ended = .never := by
  unfold nevL
  rw [List.mem_filter, List.mem_range, decide_eq_true_iff]
theorem natM_at {l : List Nat} {i : Nat} {x : V} (h : (l.map nV)[i]? = some x) : ∃ c, l[i]? = some c ∧ x = .int (c : Int) := by
  rw [List.getElem?_map, Option.map_eq_some_iff] at h
  obtain ⟨c, a, b⟩ := h
  exact ⟨c, a, b.symm⟩
/-- the residues of the others that are never served -/
def othR (gs : List Int) (m : Nat) (bs : List Int) (l : List Nat) (c : Nat) : List Int := l.flatMap fun o => if o = c then [] else resid gs m (bs.getD o 0)
theorem othR_snoc (gs : List Int) (m : Nat) (bs : List Int) (l : List Nat) (c o : Nat) : othR gs m bs (l ++ [o]) c = othR gs m bs l c ++ (if o = c then [] else resid gs m (bs.getD o 0)) := by
  unfold othR
  rw [List.flatMap_append]
  simp
theorem othR_len (gs : List Int) (m : Nat) (bs : List Int) (c : Nat) : ∀ l : List Nat, (othR gs m bs l c).length ≤ l.length * m
  | [] => Nat.zero_le _
  | o :: l => by
    have ih := othR_len gs m bs c l
    have e : othR gs m bs (o :: l) c = (if o = c then [] else resid gs m (bs.getD o 0)) ++ othR gs m bs l c := rfl
    rw [e, List.length_append, List.length_cons, Nat.succ_mul]
    have : (if o = c then [] else resid gs m (bs.getD o 0)).length ≤ m := by
      by_cases h : o = c
      · rw [if_pos h]
        exact Nat.zero_le _
      · rw [if_neg h, resid_len]
        exact Nat.le_refl _
    omega
theorem othR_mem {gs : List Int} {m : Nat} {bs : List Int} {l : List Nat} {c o : Nat} (h : o ∈ l) (ne : o ≠ c) {r : Int} (hr : r ∈ resid gs m (bs.getD o 0)) : r ∈ othR gs m bs l c := by
  unfold othR
  rw [List.mem_flatMap]
  exact ⟨o, h, by rw [if_neg ne]; exact hr⟩
theorem rep_one {α : Type} (xs : List α) : (List.replicate ((1 : Int)).toNat xs).flatten = xs := by
  show (List.replicate 1 xs).flatten = xs
  simp
theorem rep_none {α : Type} (xs : List α) : (List.replicate ((0 : Int)).toNat xs).flatten = [] := rfl
end RS
namespace RS
open PySem L2
/-! ### events as data -/
def natD (as : List Nat) : PyData := .list ((as.map fun (n : Nat) => (n : Int)).map PyData.int)
theorem nat_dp {K : PySem.W.Frag} {H : Hp} {q : Addr} {as : List Nat} (h : H q = some (.lst (as.map nV))) : Dp K H (.ref q) (natD as) := by
  have e : as.map nV = (as.map fun (n : Nat) => (n : Int)).map V.int := by rw [List.map_map]; rfl
  rw [e] at h
  exact .lst (SqL.of h) (ints_dp _)
theorem nint_can : ∀ ns : List Int, PyData.canLayAll0 (ns.map PyData.int) = true
  | [] => rfl
  | n :: r => by
    show (true && PyData.canLayAll0 (r.map PyData.int)) = true
    rw [nint_can r]
    rfl
theorem nint_depth : ∀ ns : List Int, PyData.depthAll (ns.map PyData.int) = 0
  | [] => rfl
  | n :: r => by
    show max 0 (PyData.depthAll (r.map PyData.int)) = 0
    rw [nint_depth r]
    rfl
theorem nat_can (as : List Nat) : PyData.canLay0 (natD as) = true := nint_can _
theorem nat_depth (as : List Nat) : PyData.depth (natD as) = 1 := by
  show PyData.depthAll _ + 1 = 1
  rw [nint_depth]
theorem nat_shaped (as : List Nat) : SeqAt.shaped (natD as) = true := by
  show (PyData.canLay0 (natD as) && decide (PyData.depth (natD as) ≤ 64)) = true
  rw [nat_can, nat_depth]
  rfl
theorem nat_eqv (as : List Nat) : PyData.eqv (natD as) (natD as) = true := by
  unfold natD
  rw [list_eqv, decide_eq_true rfl]
theorem shaped_of {d : PyData} (h : PyData.canLay0 d = true) (h2 : PyData.depth d ≤ 64) : SeqAt.shaped d = true := by
  show (PyData.canLay0 d && decide (PyData.depth d ≤ 64)) = true
  rw [h, decide_eq_true h2]
  rfl
theorem ev3_shaped {s : Str} (hs : PyData.canLay0 (.str s) = true) (j : Int) (as : List Nat) : SeqAt.shaped (.tuple [.str s, .int j, natD as]) = true := by
  refine shaped_of ?_ ?_
  · show (PyData.canLay0 (.str s) && (true && (PyData.canLay0 (natD as) && true))) = true
    rw [hs, nat_can]
    rfl
  · have := nat_depth as
    show max (PyData.depth (.str s)) (max (PyData.depth (.int j)) (max (PyData.depth (natD as)) 0)) + 1 ≤ 64
    have e1 : PyData.depth (.str s) = 0 := by simp [PyData.depth]
    have e2 : PyData.depth (.int j) = 0 := by simp [PyData.depth]
    omega
theorem ev2_shaped {s : Str} (hs : PyData.canLay0 (.str s) = true) {d : PyData} (hd : PyData.canLay0 d = true) (h1 : PyData.depth d ≤ 1) : SeqAt.shaped (.tuple [.str s, d]) = true := by
  refine shaped_of ?_ ?_
  · show (PyData.canLay0 (.str s) && (PyData.canLay0 d && true)) = true
    rw [hs, hd]
    rfl
  · show max (PyData.depth (.str s)) (max (PyData.depth d) 0) + 1 ≤ 64
    have e1 : PyData.depth (.str s) = 0 := by simp [PyData.depth]
    omega
theorem str_eqv (s : Str) : PyData.eqv (.str s) (.str s) = true := by simp [PyData.eqv]
theorem ev3_eqv {s : Str} (j : Int) (as : List Nat) : PyData.eqv (.tuple [.str s, .int j, natD as]) (.tuple [.str s, .int j, natD as]) = true := by
  show (PyData.eqv (.str s) (.str s) && (PyData.eqv (.int j) (.int j) && (PyData.eqv (natD as) (natD as) && true))) = true
  rw [str_eqv, nat_eqv, show PyData.eqv (.int j) (.int j) = true by simp [PyData.eqv]]
  rfl
theorem ev2_eqv {s : Str} {d : PyData} (h : PyData.eqv d d = true) : PyData.eqv (.tuple [.str s, d]) (.tuple [.str s, d]) = true := by
  show (PyData.eqv (.str s) (.str s) && (PyData.eqv d d && true)) = true
  rw [str_eqv, h]
  rfl
end RS
namespace RS
open PySem L2
/-- five parts in a tuple anew, with other starts -/
theorem Parts.anew {a : Addr} {H : Hp} {u g t s w : Addr} {n : Int} {gs : List Int} {tl : Tl} {bs : List Int} {rs : List V} {ws : List (Int × Int)} (B : Parts a H u g t s w n gs tl bs rs ws) {u2 q : Addr} {zs : List Int} (hu : H u2 = none) (nu : u2 ≠ a) (nq : q ≠ a) (hq : H q = some (.lst (zs.map V.int))) :
    Parts a (upd H u2 (.tup [.ref g, .ref t, .ref q, .ref w, .int n])) u2 g t q w n gs tl zs rs ws := by
  have S := same_new (o := .tup [.ref g, .ref t, .ref q, .ref w, .int n]) hu
  exact ⟨upd_same, nu, S _ _ B.hg, B.ng, S _ _ B.ht, B.nt, S _ _ hq, nq, S _ _ B.hw, B.nw, B.tp.kx (Kx.of S)⟩
theorem src_ob {H : Hp} {a : Addr} {b : Nat} (S : Src H a b) : ∃ u, H a = some u ∧ ∀ xs, u ≠ .tup xs := by
  obtain ⟨s0, s1, s2, h, _⟩ := S.ex
  exact ⟨_, h, fun xs e => by cases e⟩
end RS
namespace RS
open PySem L2
section
variable {P : Program} {w : World} {K : PySem.W.Frag} {mg : Str → Option Value} {base : Heap}
/-! ### _law_long -/
def spLong : Sp := fun vs H Q _ => ∃ (a : Addr), vs = [.ref a] ∧ Src H a 0 ∧
  ∀ (u g t s w : Addr) (n : Int) (gs : List Int) (m : Nat) (bs : List Int) (rs : List V) (ws : List (Int × Int)) (H' : Hp), Parts a H' u g t s w n gs (.rep m) bs rs ws → LongOk gs m bs ws n → Kx a H H' → Src H' a 100 → Q (.ref u) H'
def loN : List Str := ["_law_well_here", "_law_steps", "_law_great", "_law_k", "_law_begins", "_law_ending"]
theorem scLong : FnScope loN ["_law_well_here"] (defScope s_law_long) := ⟨rfl, rfl, rfl, by decide +kernel, rfl, by decide +kernel, by decide +kernel⟩
theorem sum_le {gs : List Int} {M : Int} : (∀ g ∈ gs, 1 ≤ g ∧ g ≤ M) → 0 ≤ gs.sum ∧ gs.sum ≤ (gs.length : Int) * M := by
  induction gs with
  | nil => intro _; exact ⟨Int.le_refl _, by rw [List.length_nil]; show (0 : Int) ≤ 0 * M; omega⟩
  | cons g r ih =>
    intro h
    have a := h g (List.mem_cons_self ..)
    have b := ih fun x hx => h x (List.mem_cons_of_mem _ hx)
    rw [List.sum_cons, List.length_cons]
    have : ((r.length + 1 : Nat) : Int) * M = (r.length : Int) * M + M := by rw [Int.natCast_add, Int.add_mul]; show _ + 1 * M = _; omega
    omega
theorem ix_in {n j : Nat} (h : j < n) : ixN n (j : Int) = some j := by
  unfold ixN
  simp [h]
theorem ok_long {f C fN fO fW : Addr} {fd fdN fdO fdW : FuncData} (F : Fun K "_law_long" "_law_long" s_law_long f fd) (T : Txt K mg C)
    (GN : FnOk P w K mg base CX0 2 fN fdN ["_law_well_here", "_law_many"] spNext) (bN : Binds K fdN ["_law_well_here", "_law_many"] []) (mN : mg "_law_draw" = some (.ref fN)) (kN : PySem.W.keepIn K (.ref fN) = true)
    (GO : FnOk P w K mg base CX0 3 fO fdO ["_law_well_here", "_law_some"] spOne) (bO : Binds K fdO ["_law_well_here", "_law_some"] []) (mO : mg "_law_one" = some (.ref fO)) (kO : PySem.W.keepIn K (.ref fO) = true)
    (GW : FnOk P w K mg base CX0 3 fW fdW ["_law_well_here"] spWin) (bW : Binds K fdW ["_law_well_here"] []) (mW : mg "_law_windows" = some (.ref fW)) (kW : PySem.W.keepIn K (.ref fW) = true) : FnOk P w K mg base CX0 5 f fd ["_law_well_here"] spLong := by
  refine F.ok scLong (fun vs H Q E h => ?_) (fun cdv A outer s H vs Q E hr h => ?_)
  · obtain ⟨a, rfl, _⟩ := h
    rfl
  · obtain ⟨a, rfl, Sr, k⟩ := h
    have hr2 := hr.mono (show 2 ≤ 4 by decide)
    have hr3 := hr.mono (show 3 ≤ 4 by decide)
    refine ⟨_, (Evl.pss_cut (ps_setLc (i := 1) (own := [("_law_k", 3)]) (g := gName 3) (tt := tYes) (by rfl) scLong.nd rfl rfl (sw_true rfl rfl rfl (by decide +kernel)) (pi_range1 rfl T.range (pa_cons (pe_op op_add pe_int (pe_call GN hr2 rfl mN kN bN .nil pass0 (pa_cons (pv 0) (pa_cons pe_int pa_nil)))) pa_nil)) (blkOk_by (own := [("_law_k", 3)]) (N := loN) (sc := (defScope s_law_long)) (by decide +kernel)) (fun _ _ _ _ _ => (pg_name (i := 3) scLong.nd rfl (Or.inl rfl))) (fun _ _ _ _ _ => pts_nil) (fun _ _ _ _ _ => (pe_op op_add pe_int (pe_call GN hr2 rfl mN kN bN .nil pass0 (pa_cons (pv 0) (pa_cons pe_int pa_nil)))))) (Evl.pss_cut (ps_set (i := 2) scLong.nd rfl (Or.inl rfl) (pe_op op_add (pe_op op_pow pe_int pe_int) (pe_call GN hr2 rfl mN kN bN .nil pass0 (pa_cons (pv 0) (pa_cons (pe_op op_pow pe_int pe_int) pa_nil))))) (Evl.pss_cut (ps_for PassesOwn.never rfl (pi_range1 rfl T.range (pa_cons (pe_op op_add pe_int (pe_call GN hr2 rfl mN kN bN .nil pass0 (pa_cons (pv 0) (pa_cons pe_int pa_nil)))) pa_nil)) (pg_name (i := 3) scLong.nd rfl (Or.inl rfl)) (pss_one (ps_asg (pe_op op_add (pv 2) (pe_call GN hr2 rfl mN kN bN .nil pass0 (pa_cons (pv 0) (pa_cons pe_int pa_nil)))) (pg_sub (pv 1) (pe_call GN hr2 rfl mN kN bN .nil pass0 (pa_cons (pv 0) (pa_cons (pe_callB call_len_seq (by rfl) T.len (by decide +kernel) (pa_cons (pv 1) pa_nil)) pa_nil))) set_list)))) (pss_cons (ps_set (i := 4) scLong.nd rfl (Or.inl rfl) (pe_lst pa_nil)) (Evl.pss_cut (ps_for PassesOwn.never rfl (pi_range1 rfl T.range (pa_cons (pe_op op_add pe_int (pe_call GN hr2 rfl mN kN bN .nil pass0 (pa_cons (pv 0) (pa_cons pe_int pa_nil)))) pa_nil)) (pg_name (i := 3) scLong.nd rfl (Or.inl rfl)) (pss_one (ps_expr (pe_bm PySem.F.plainAttrs_list PySem.F.slot_list_append PySem.F.type_list_append mt_append (pv 4) (pa_cons (pe_op op_add (pe_call GN hr2 rfl mN kN bN .nil pass0 (pa_cons (pv 0) (pa_cons pe_int pa_nil))) (pe_call GO hr3 rfl mO kO bO .nil pass0 (pa_cons (pv 0) (pa_cons (pe_lst (pa_cons pe_int (pa_cons pe_int (pa_cons (pv 2) (pa_cons (pe_op op_mul pe_int (pv 2)) (pa_cons (pe_callB (cr_sum rfl) (by rfl) T.sum (by decide +kernel) (pa_cons (pv 1) pa_nil)) pa_nil)))))) pa_nil)))) pa_nil))))) (pss_cons (ps_set (i := 5) scLong.nd rfl (Or.inl rfl) (pe_tup (pa_cons pe_str (pa_cons (pe_op op_add pe_int (pe_call GN hr2 rfl mN kN bN .nil pass0 (pa_cons (pv 0) (pa_cons (pe_callB call_len_seq (by rfl) T.len (by decide +kernel) (pa_cons (pv 1) pa_nil)) pa_nil)))) pa_nil)))) (pss_one (ps_ret (pe_tup (pa_cons (pv 1) (pa_cons (pv 5) (pa_cons (pv 4) (pa_cons (pe_call GW hr3 rfl mW kW bW .nil pass0 (pa_cons (pv 0) pa_nil)) (pa_cons (pe_op op_add pe_int (pe_call GN hr2 rfl mN kN bN .nil pass0 (pa_cons (pv 0) (pa_cons pe_int pa_nil)))) pa_nil)))))))))))))), ?_⟩
    have up : ∀ {H1 H2 : Hp} {D : Addr} {o : HO}, H D = none → Kx a H H1 → Kx a H1 H2 → Kx a H (upd H2 D o) := fun hD k1 k2 c u nc e => by rw [upd_ne (ne_of_none e hD)]; exact (k1.trans k2) c u nc e
    -- the gaps
    refine ⟨fun σ' H' => ∃ (D : Addr) (gs : List Int), σ' = [some (.ref a), some (.ref D), none, none, none, none] ∧ Kx a H H' ∧ Src H' a 9 ∧ D ≠ a ∧ H D = none ∧ H' D = some (.lst (gs.map V.int)) ∧ 1 ≤ gs.length ∧ gs.length ≤ 8 ∧ ∀ g ∈ gs, 1 ≤ g ∧ g ≤ 102000000000, ?_, ?_⟩
    · refine ⟨_, rfl, a, 8, 0, rfl, Sr, by omega, by omega, by decide, fun r H2 r0 r1 kx2 Sr2 => ⟨_, _, rfl, rfl, ?_⟩⟩
      refine ⟨1 + r, rfl, by omega, by omega, fun D hD => ?_⟩
      have nDa : D ≠ a := (Sr2.new hD).symm
      have hDH : H D = none := by
        cases e : H D with
        | none => rfl
        | some u => have := kx2 _ _ nDa e; rw [hD] at this; cases this
      refine lc_range (lo := 0) (n := (1 + r).toNat) (fun i H' => ∃ gs : List Int, gs.length = i ∧ (∀ g ∈ gs, 1 ≤ g ∧ g ≤ 102000000000) ∧ H' D = some (.lst (gs.map V.int)) ∧ Kx a H H' ∧ Src H' a (1 + i)) ⟨[], rfl, (fun x h => nomatch h), upd_same, up hDH kx2 (fun b u _ e => e), Sr2.mono (same_new hD)⟩ (fun i H' hi z => ?_) (fun H' z => ?_)
      · obtain ⟨gs, lt, hg, hDt, kx, Sr'⟩ := z
        refine ⟨rfl, yes_t (iteT ?_)⟩
        refine ⟨_, rfl, a, 4, _, rfl, Sr', by omega, by omega, by decide, fun x H4 x0 x1 kx4 Sr4 => ⟨_, _, rfl, rfl, ?_⟩⟩
        have hD4 := kx4 _ _ nDa hDt
        refine ⟨_, hD4, by rw [List.length_map]; exact small1000 (by omega), gs ++ [1 + x], by rw [List.length_append, lt]; rfl, fun z hz => ?_, by rw [upd_same, List.map_append]; rfl, up hDH kx kx4, Sr4.upd nDa.symm⟩
        rcases List.mem_append.mp hz with h | h
        · exact hg z h
        · rw [List.mem_singleton.mp h]
          omega
      · obtain ⟨gs, lt, hg, hDt, kx, Sr'⟩ := z
        exact ⟨D, gs, rfl, kx, Sr'.le (by omega), nDa, hDH, hDt, by omega, by omega, hg⟩
    rintro _ H1 ⟨D, gs, rfl, kx1, Sr1, nDa, hDH, hD1, l1, l8, hg1⟩
    -- the great gap
    refine ⟨fun σ' H' => ∃ great : Int, σ' = [some (.ref a), some (.ref D), some (.int great), none, none, none] ∧ Kx a H1 H' ∧ Src H' a 10 ∧ 1000000000 ≤ great ∧ great < 101000000000, ?_, ?_⟩
    · have e9 : (10 : Int) ^ (9 : Int).toNat = 1000000000 := by decide
      have e11 : (10 : Int) ^ (11 : Int).toNat = 100000000000 := by decide
      refine ⟨_, _, rfl, rfl, ⟨by decide, by decide, by decide⟩, _, rfl, _, _, rfl, rfl, ⟨by decide, by decide, by decide⟩, a, _, 9, rfl, Sr1, by omega, by decide, by decide, fun r H2 r0 r1 kx2 Sr2 => ⟨_, _, rfl, rfl, _, rfl, kx2, Sr2, ?_, ?_⟩⟩
      · rw [e9]; omega
      · rw [e9]; rw [e11] at r1; omega
    rintro _ H2 ⟨great, rfl, kx2, Sr2, gr1, gr2⟩
    have hD2 := kx2 _ _ nDa hD1
    -- the large gaps
    refine ⟨fun σ' H' => ∃ (v3 : Option V) (gs : List Int), σ' = [some (.ref a), some (.ref D), some (.int great), v3, none, none] ∧ Kx a H H' ∧ Src H' a 20 ∧ H' D = some (.lst (gs.map V.int)) ∧ 1 ≤ gs.length ∧ gs.length ≤ 8 ∧ ∀ g ∈ gs, 1 ≤ g ∧ g ≤ 102000000000, ?_, ?_⟩
    · refine ⟨_, rfl, a, 2, 10, rfl, Sr2, by omega, by omega, by decide, fun r H3 r0 r1 kx3 Sr3 => ⟨_, _, rfl, rfl, ?_⟩⟩
      refine ⟨1 + r, rfl, by omega, by omega, for_range (n := (1 + r).toNat) (fun i σ H' => ∃ (v3 : Option V) (gs : List Int), σ = [some (.ref a), some (.ref D), some (.int great), v3, none, none] ∧ Kx a H H' ∧ Src H' a (11 + 2 * i) ∧ H' D = some (.lst (gs.map V.int)) ∧ 1 ≤ gs.length ∧ gs.length ≤ 8 ∧ ∀ g ∈ gs, 1 ≤ g ∧ g ≤ 102000000000) ⟨none, gs, rfl, kx1.trans (kx2.trans kx3), Sr3, kx3 _ _ nDa hD2, l1, l8, hg1⟩ ?_ ?_⟩
      · rintro i σ H4 hi ⟨v3, gs, rfl, kx4, Sr4, hD4, l1, l8, hg⟩
        refine ⟨_, rfl, _, rfl, a, 3, _, rfl, Sr4, by omega, by omega, by decide, fun x H5 x0 x1 kx5 Sr5 => ⟨_, _, rfl, rfl, ?_⟩⟩
        have hD5 := kx5 _ _ nDa hD4
        refine ⟨_, rfl, _, rfl, _, rfl, D, _, rfl, .inl (SqL.of hD5), ?_⟩
        rw [List.length_map]
        refine ⟨a, _, _, rfl, Sr5, by omega, by omega, by have : ((gs.length : Nat) : Int) ≤ 100 := (by omega); exact Int.lt_of_le_of_lt this (by decide), fun y H6 y0 y1 kx6 Sr6 => ?_⟩
        obtain ⟨yn, rfl⟩ := Int.eq_ofNat_of_zero_le y0
        have hD6 := kx6 _ _ nDa hD5
        refine ⟨D, _, _, yn, rfl, rfl, hD6, by rw [List.length_map]; exact ix_in (by omega), ?_⟩
        refine ⟨_, gs.set yn (great + x), rfl, up hDH (kx4.trans kx5) kx6, ((Sr6.upd nDa.symm).le (by omega)), by rw [upd_same, List.map_set], by rw [List.length_set]; exact l1, by rw [List.length_set]; exact l8, fun z hz => ?_⟩
        rcases List.mem_or_eq_of_mem_set hz with h | h
        · exact hg z h
        · rw [h]
          omega
      · rintro σ H4 ⟨v3, gs, rfl, kx4, Sr4, hD4, l1, l8, hg⟩
        exact ⟨v3, gs, rfl, kx4, Sr4.le (by omega), hD4, l1, l8, hg⟩
    rintro _ H3 ⟨v3, gs, rfl, kx3, Sr3, hD3, l1, l8, hg⟩
    clear hg1 hD1 hD2 kx1 kx2 Sr1 Sr2
    -- the starts
    refine ⟨(by show 0 ≤ sizeLine; decide), fun G hG => ?_⟩
    have nGa : G ≠ a := (Sr3.new hG).symm
    have nGD : G ≠ D := (ne_of_none hD3 hG).symm
    have hGH : H G = none := by
      cases e : H G with
      | none => rfl
      | some u => have := kx3 _ _ nGa e; rw [hG] at this; cases this
    have S4 := same_new (o := .lst ([] : List V)) hG
    have hG4 : (upd H3 G (.lst ([] : List V))) G = some (.lst []) := upd_same
    have Sr4 := Sr3.mono S4
    have hD4 := S4 _ _ hD3
    have kx4 := kx3.trans (Kx.of S4)
    generalize upd H3 G (.lst ([] : List V)) = H4 at S4 hG4 Sr4 hD4 kx4
    refine ⟨fun σ' H' => ∃ (v3 : Option V) (bs : List Int), σ' = [some (.ref a), some (.ref D), some (.int great), v3, some (.ref G), none] ∧ Kx a H H' ∧ Src H' a 40 ∧ H' D = some (.lst (gs.map V.int)) ∧ H' G = some (.lst (bs.map V.int)) ∧ 1 ≤ bs.length ∧ bs.length ≤ 6 ∧ ∀ b ∈ bs, 0 ≤ b ∧ b ≤ 900000000000, ?_, ?_⟩
    · refine ⟨_, rfl, a, 6, 20, rfl, Sr4, by omega, by omega, by decide, fun r H5 r0 r1 kx5 Sr5 => ⟨_, _, rfl, rfl, ?_⟩⟩
      refine ⟨1 + r, rfl, by omega, by omega, for_range (n := (1 + r).toNat) (fun i σ H' => ∃ (v3 : Option V) (bs : List Int), σ = [some (.ref a), some (.ref D), some (.int great), v3, some (.ref G), none] ∧ Kx a H H' ∧ Src H' a (21 + 2 * i) ∧ H' D = some (.lst (gs.map V.int)) ∧ H' G = some (.lst (bs.map V.int)) ∧ bs.length = i ∧ ∀ b ∈ bs, 0 ≤ b ∧ b ≤ 900000000000) ⟨v3, [], rfl, kx4.trans kx5, Sr5, kx5 _ _ nDa hD4, kx5 _ _ nGa hG4, rfl, (fun x h => nomatch h)⟩ ?_ ?_⟩
      · rintro i σ H6 hi ⟨v3, bs, rfl, kx6, Sr6, hD6, hG6, lb, hb⟩
        refine ⟨_, rfl, .inl ⟨rfl, _, SqL.of hG6⟩, _, rfl, a, 9, _, rfl, Sr6, by omega, by omega, by decide, fun x H7 x0 x1 kx7 Sr7 => ?_⟩
        have hD7 := kx7 _ _ nDa hD6
        refine ⟨_, rfl, _, rfl, _, rfl, _, _, rfl, rfl, .inl ⟨by omega, by omega⟩, _, rfl, D, gs, rfl, SqL.of hD7, (by show 5 ≤ sizeLine; decide), fun l hl => ?_⟩
        have Sl := same_new (o := .lst [V.int 0, V.int 0, V.int great, V.int (5 * great), V.int gs.sum]) hl
        have sg := sum_le hg
        refine ⟨a, l, _, _, rfl, Sr7.mono Sl, by omega, (Sr7.new hl).symm, upd_same, by show 0 < 5; decide, by show 5 < 1000; decide, fun y H8 hy kx8 Sr8 => ?_⟩
        obtain ⟨yn, rfl, y0, y1⟩ : ∃ yn : Int, y = .int yn ∧ 0 ≤ yn ∧ yn ≤ 890000000000 := by
          have : (gs.length : Int) * 102000000000 ≤ 8 * 102000000000 := Int.mul_le_mul_of_nonneg_right (by omega) (by decide)
          simp only [List.mem_cons, List.not_mem_nil, or_false] at hy
          rcases hy with rfl | rfl | rfl | rfl | rfl
          · exact ⟨_, rfl, by decide, by decide⟩
          · exact ⟨_, rfl, by decide, by decide⟩
          · exact ⟨_, rfl, by omega, by omega⟩
          · exact ⟨_, rfl, by omega, by omega⟩
          · exact ⟨_, rfl, sg.1, by omega⟩
        have kx78 := kx7.trans ((Kx.of Sl).trans kx8)
        have hG8 := kx78 _ _ nGa hG6
        have hD8 := kx78 _ _ nDa hD6
        refine ⟨_, _, rfl, rfl, G, _, _, rfl, rfl, hG8, by rw [List.length_map]; exact small1000 (by omega), ?_⟩
        refine ⟨_, bs ++ [x + yn], rfl, up hGH kx6 kx78, (Sr8.upd nGa.symm).le (by omega), by rw [upd_ne nGD.symm]; exact hD8, by rw [upd_same, List.map_append]; rfl, by rw [List.length_append, lb]; rfl, fun z hz => ?_⟩
        rcases List.mem_append.mp hz with h | h
        · exact hb z h
        · rw [List.mem_singleton.mp h]
          omega
      · rintro σ H6 ⟨v3, bs, rfl, kx6, Sr6, hD6, hG6, lb, hb⟩
        exact ⟨v3, bs, rfl, kx6, Sr6.le (by omega), hD6, hG6, by omega, by omega, hb⟩
    rintro _ H5 ⟨v3, bs, rfl, kx5, Sr5, hD5, hG5, b1, b6, hb⟩
    clear S4 hG4 Sr4 hD4 kx4 hD3 kx3 Sr3
    -- the tail
    refine ⟨_, rfl, _, rfl, D, _, rfl, .inl (SqL.of hD5), ?_⟩
    rw [List.length_map]
    refine ⟨a, _, 40, rfl, Sr5, by omega, by omega, by have : ((gs.length : Nat) : Int) ≤ 100 := (by omega); exact Int.lt_of_le_of_lt this (by decide), fun r H6 r0 r1 kx6 Sr6 => ⟨_, _, rfl, rfl, (by show 2 ≤ sizeLine; decide), fun t ht => ?_⟩⟩
    obtain ⟨rn, rfl⟩ := Int.eq_ofNat_of_zero_le r0
    have St := same_new (o := .tup (Tl.rep (1 + rn)).vs) ht
    have nta : t ≠ a := (Sr6.new ht).symm
    have Sr7 := Sr6.mono St
    have kx7 := kx6.trans (Kx.of St)
    have ht7 : (upd H6 t (.tup (Tl.rep (1 + rn)).vs)) t = some (.tup (Tl.rep (1 + rn)).vs) := upd_same
    have hD7 := kx7 _ _ nDa hD5
    have hG7 := kx7 _ _ nGa hG5
    have kxH := kx5.trans kx7
    refine ⟨_, rfl, _, rfl, _, rfl, _, rfl, a, 41, rfl, Sr7, by omega, fun l rs ws H8 nl hl tp wo w3 wb kx8 Sr8 => ?_⟩
    refine ⟨_, rfl, a, 4, 51, rfl, Sr8, by omega, by omega, by decide, fun n H9 n0 n1 kx9 Sr9 => ⟨_, _, rfl, rfl, (by show 5 ≤ sizeLine; decide), fun u hu => ?_⟩⟩
    have Su := same_new (o := .tup [.ref D, .ref t, .ref G, .ref l, .int (1 + n)]) hu
    have kxu := kx9.trans (Kx.of Su)
    have kxv := kx8.trans kxu
    refine k u D t G l (1 + n) gs (1 + rn) bs rs ws _ ⟨upd_same, (Sr9.new hu).symm, kxv _ _ nDa hD7, nDa, kxv _ _ nta ht7, nta, kxv _ _ nGa hG7, nGa, kxu _ _ nl hl, nl, tp.kx kxu⟩ ⟨l1, l8, hg, by omega, by omega, b1, b6, hb, wo, w3, wb, by omega, by omega⟩ (kxH.trans kxv) ((Sr9.mono Su).le (by omega))
end
end RS
namespace RS
open PySem L2
section
variable {P : Program} {w : World} {K : PySem.W.Frag} {mg : Str → Option Value} {base : Heap}
/-! ### _law_right -/
def spRt33 : Sp := fun vs H Q _ => ∃ (a : Addr), vs = [.ref a] ∧ Src H a 0 ∧ ∀ H', Kx a H H' → Q (.bl true) H'
def rtN : List Str := ["_law_well_here", "_law_parts", "_law_steps", "_law_ending", "_law_begins", "_law_windows_here", "_law_long_here", "_law_gone", "_law_told", "_law_never", "_law_client", "_law_others", "_law_other", "_law_one_here", "_law_attempts", "_law_place"]
theorem scRt : FnScope rtN ["_law_well_here"] (defScope s_law_right) := ⟨rfl, rfl, rfl, by decide +kernel, rfl, by decide +kernel, by decide +kernel⟩
theorem ok_rt33 {f C CS CR fL fM fR fOs fE fA fRs fH : Addr} {fd fdL fdM fdR fdOs fdE fdA fdRs fdH : FuncData} (F : Fun K "_law_right" "_law_right" s_law_right f fd) (T : Txt K mg C) (TS : TxtS K mg CS) (TR : TxtR K mg CR)
    (GL : FnOk P w K mg base CX0 5 fL fdL ["_law_well_here"] spLong) (bL : Binds K fdL ["_law_well_here"] []) (mL : mg "_law_long" = some (.ref fL)) (kL : PySem.W.keepIn K (.ref fL) = true)
    (GM : FnOk P w K mg base CX0 7 fM fdM ["_law_parts"] (spMade C CS)) (bM : Binds K fdM ["_law_parts"] []) (mM : mg "_law_made" = some (.ref fM)) (kM : PySem.W.keepIn K (.ref fM) = true)
    (MR : Mk K CR fR) (GR : FnOk P w K mg base CX0 9 fR fdR ["self", "scene"] (spRn0 C CS CR)) (bR : Binds K fdR ["self", "scene"] [])
    (GOs : FnOk P w K mg base CX0 9 fOs fdOs ["self"] (spOcs C CS CR)) (bOs : Binds K fdOs ["self"] []) (mOs : Meth K CR "outcomes" fOs)
    (GE : FnOk P w K mg base CX0 8 fE fdE ["self", "slot"] (spEv C CS CR)) (bE : Binds K fdE ["self", "slot"] []) (mE : Meth K CR "event" fE)
    (GA : FnOk P w K mg base CX0 6 fA fdA ["self", "slot"] (spAct C CS CR)) (bA : Binds K fdA ["self", "slot"] []) (mA : Meth K CR "active" fA)
    (GRs : FnOk P w K mg base CX0 1 fRs fdRs ["_law_parts", "_law_client"] spRes) (bRs : Binds K fdRs ["_law_parts", "_law_client"] []) (mRs : mg "_law_residues" = some (.ref fRs)) (kRs : PySem.W.keepIn K (.ref fRs) = true)
    (GH : FnOk P w K mg base CX0 1 fH fdH ["_law_steps", "_law_ending", "_law_distance"] spHas) (bH : Binds K fdH ["_law_steps", "_law_ending", "_law_distance"] []) (mH : mg "_law_has" = some (.ref fH)) (kH : PySem.W.keepIn K (.ref fH) = true) : FnOk P w K mg base CX0 11 f fd ["_law_well_here"] spRt33 := by
  refine F.ok scRt (fun vs H Q E h => ?_) (fun cdv A outer s H vs Q E hr h => ?_)
  · obtain ⟨a, rfl, _⟩ := h
    rfl
  · obtain ⟨a, rfl, Sr, k⟩ := h
    have hr1 := hr.mono (show 1 ≤ 10 by decide)
    have hr5 := hr.mono (show 5 ≤ 10 by decide)
    have hr6 := hr.mono (show 6 ≤ 10 by decide)
    have hr7 := hr.mono (show 7 ≤ 10 by decide)
    have hr8 := hr.mono (show 8 ≤ 10 by decide)
    have hr9 := hr.mono (show 9 ≤ 10 by decide)
    refine ⟨_, (pss_cons (ps_set (i := 1) scRt.nd rfl (Or.inl rfl) (pe_call GL hr5 rfl mL kL bL .nil pass0 (pa_cons (pv 0) pa_nil))) (pss_cons (ps_asg (pv 1) (pg_tup rfl (pgs_cons (pg_name (i := 2) scRt.nd rfl (Or.inr rfl)) (pgs_cons (pg_name (i := 3) scRt.nd rfl (Or.inr rfl)) (pgs_cons (pg_name (i := 4) scRt.nd rfl (Or.inr rfl)) (pgs_cons (pg_name (i := 5) scRt.nd rfl (Or.inl rfl)) (pgs_cons (pg_name (i := 6) scRt.nd rfl (Or.inl rfl)) pgs_nil))))))) (pss_cons (ps_set (i := 7) scRt.nd rfl (Or.inl rfl) (pe_make MR GR hr rfl TR.mgR bR .nil pass0 (pa_cons (pe_call GM hr7 rfl mM kM bM .nil pass0 (pa_cons (pv 1) pa_nil)) pa_nil))) (pss_cons (ps_set (i := 8) scRt.nd rfl (Or.inl rfl) (pe_meth0 (pv 7) TR.cl mOs GOs hr9 bOs .nil pass0)) (Evl.pss_cut (ps_setLc (i := 9) (own := [("_law_client", 10), ("_law_one_here", 13)]) (g := gTup K 2 (gCons (gName 10) (gCons (gName 13) gNil))) (by rfl) scRt.nd rfl rfl (sw_true rfl rfl rfl (by decide +kernel)) (pi_enum (by rfl) TS.enum (pa_cons (pv 8) pa_nil)) (blkOk_by (own := [("_law_client", 10), ("_law_one_here", 13)]) (N := rtN) (sc := (defScope s_law_right)) (by decide +kernel))
        (fun _ _ _ _ _ => pg_tup rfl (pgs_cons (pg_name (i := 10) scRt.nd rfl (Or.inl rfl)) (pgs_cons (pg_name (i := 13) scRt.nd rfl (Or.inl rfl)) pgs_nil))) (fun _ _ _ _ _ => pts_one (pt_cmpR (r := rEqD K) (op_eqD hr.units) (pv 13) (pe_tup (pa_cons pe_str pa_nil)) (nomark _))) (fun _ _ _ _ _ => pv 10)) (Evl.pss_cut (ps_for PassesOwn.never rfl (pi_list (pv 9)) (pg_name (i := 10) scRt.nd rfl (Or.inl rfl)) (pss_cons (ps_set (i := 11) scRt.nd rfl (Or.inr rfl) (pe_lst pa_nil)) (Evl.pss_cut (ps_for PassesOwn.never rfl (pi_list (pv 9)) (pg_name (i := 12) scRt.nd rfl (Or.inl rfl)) (pss_one (ps_expr (pe_bm PySem.F.plainAttrs_list PySem.F.slot_list_extend PySem.F.type_list_extend mt_extend (pv 11) (pa_cons (pe_op op_rep (pe_call GRs hr1 rfl mRs kRs bRs .nil pass0 (pa_cons (pv 1) (pa_cons (pv 12) pa_nil))) (pe_callTy call_int1 (by rfl) T.int (by decide +kernel) (pa_cons (pe_cmpR op_ne (pv 12) (pv 10) (nomark _)) pa_nil))) pa_nil))))) (pss_one (ps_if (pt_cmpR (op_neNil hr.units) (pe_lc (own := [("_law_place", 15)]) (g := gName 15) rfl scRt.nd (pi_list (pe_call GRs hr1 rfl mRs kRs bRs .nil pass0 (pa_cons (pv 1) (pa_cons (pv 10) pa_nil)))) (blkOk_by (own := [("_law_place", 15)]) (N := rtN) (sc := (defScope s_law_right)) (by decide +kernel)) (fun _ _ _ _ _ => (pg_name (i := 15) scRt.nd rfl (Or.inl rfl))) (fun _ _ _ _ _ => pts_one (pt_cmpR (r := rIn K true) op_notIn_seq (pv 15) (pv 11) (by rfl))) (fun _ _ _ _ _ => pe_int)) (pe_lst pa_nil) (nomark _)) (pss_one (ps_ret pe_bl)) pss_nil))))) (pss_cons (ps_for PassesOwn.never rfl (pi_enum (by rfl) TS.enum (pa_cons (pv 8) pa_nil)) (pg_tup rfl (pgs_cons (pg_name (i := 10) scRt.nd rfl (Or.inl rfl)) (pgs_cons (pg_name (i := 13) scRt.nd rfl (Or.inr rfl)) pgs_nil))) (pss_one (ps_if (pt_cmpR op_eq (pe_ix ix_tup (pv 13) pe_int (fun _ _ => rfl)) pe_str (nomark _)) (pss_cons (ps_setLc (i := 14) (own := [("_law_other", 12)]) (g := gName 12) (by rfl) scRt.nd rfl rfl (sw_true rfl rfl rfl (by decide +kernel)) (pi_list (pe_meth (pv 7) TR.cl mA GA hr6 bA .nil pass0 (pa_cons (pe_ix ix_tup (pv 13) pe_int (fun _ _ => rfl)) pa_nil))) (blkOk_by (own := [("_law_other", 12)]) (N := rtN) (sc := (defScope s_law_right)) (by decide +kernel)) (fun _ _ _ _ _ => (pg_name (i := 12) scRt.nd rfl (Or.inl rfl))) (fun _ _ _ _ _ => pts_one (pt_val (pe_call GH hr1 rfl mH kH bH .nil pass0 (pa_cons (pv 2) (pa_cons (pv 3) (pa_cons (pe_op op_sub (pe_ix (r := rIxT K) ix_tup (pv 13) pe_int (fun _ _ => rfl)) (pe_ix (r := rIxL K) ix_list (pv 4) (pv 12) (fun _ _ => rfl))) pa_nil)))))) (fun _ _ _ _ _ => (pv 12))) (pss_one (ps_if (PW.pt (pw_or (pt_cmpR (op_neD hr.units) (pv 14) (pe_lst (pa_cons (pv 10) pa_nil)) (nomark _)) (pw_or1 (pt_cmpR (op_neD hr.units) (pe_meth (pv 7) TR.cl mE GE hr8 bE .nil pass0 (pa_cons (pe_ix ix_tup (pv 13) pe_int (fun _ _ => rfl)) pa_nil)) (pe_tup (pa_cons pe_str (pa_cons (pv 10) pa_nil))) (nomark _))))) (pss_one (ps_ret pe_bl)) pss_nil))) (pss_one (ps_if (pt_cmpR (op_neD hr.units) (pv 13) (pe_tup (pa_cons pe_str pa_nil)) (nomark _)) (pss_one (ps_ret pe_bl)) pss_nil))))) (pss_one (ps_ret pe_bl))))))))), ?_⟩
    refine ⟨_, rfl, a, rfl, Sr, fun u g t sb wb n gs m bs rs ws H1 B ok kx1 Sr1 => ?_⟩
    refine ⟨_, rfl, u, _, rfl, SqT.of B.hu, rfl, _, _, rfl, _, _, rfl, _, _, rfl, _, _, rfl, _, _, rfl, rfl, ?_⟩
    have okG := ok.okG
    have okT := ok.okT
    have b6 := ok.b6
    refine ⟨_, rfl, ?_⟩
    obtain ⟨zA, hzA, nzA⟩ := src_ob Sr1
    refine ⟨a, u, g, t, sb, wb, n, gs, .rep m, bs, rs, ws, rfl, B, ⟨_, hzA⟩, okG, okT, (⟨ok.b1, by omega, ok.wo, by have := ok.w3; omega, ok.n1⟩), fun pA rA gA tA oA slA wlA rsA H6A S6A ScA => ?_⟩
    refine fun RA dxA hRA hdxA _ => ?_
    have SmA := made_same (o1 := .own RA) (o2 := .ins CR dxA []) hRA hdxA
    have hyA := S6A _ _ hzA
    refine ⟨a, RA, dxA, pA, rA, gA, tA, oA, slA, wlA, ⟨gs, .rep m, bs, ws, n⟩, rsA, 41, rfl, upd_same, ScA.kx (Kx.of SmA), ok.near, (ne_of_none hyA hRA).symm, ⟨_, SmA _ _ hyA, nzA⟩, fun qoA doA usA VA ksA lvA H7A kxA RuA => ⟨rfl, ?_⟩⟩
    have S7A : Same H1 H7A := fun b u e => kxA b u (ne_of_none (S6A _ _ e) hRA) (SmA _ _ (S6A _ _ e))
    clear kxA SmA hyA ScA S6A hzA nzA hRA hdxA
    obtain ⟨dxr, hobr⟩ := RuA.ob
    refine ⟨_, rfl, RA, dxr, _, rfl, hobr, rnf_no (by decide +kernel) (by decide +kernel) (by decide +kernel), a, RA, pA, rA, gA, tA, oA, slA, wlA, qoA, doA, ⟨gs, .rep m, bs, ws, n⟩, _, usA, VA, ksA, lvA, 41, rfl, RuA, by decide, fun qA xsA ocA H8 S8 hqA0 hqA OA loA => ?_⟩
    have loA : ocA.length = bs.length := loA
    have runA : RunS gs (.rep m) bs ws n VA := RuA.run
    have S18 := S7A.trans S8
    have RuN := RuA.kx (Kx.of S8)
    have BN := B.kx (Kx.of S18)
    have kxN := kx1.trans (Kx.of S18)
    have nqA : qA ≠ a := ((Sr1.mono S7A).new hqA0).symm
    clear RuA S7A S8 S18 B
    have nev : ∀ c, c < bs.length → (ocA.getD c .ended = .never ↔ ∀ t, (t, c) ∉ VA) := fun c hc => by
      obtain ⟨x, ex, ix⟩ := oc_list OA (j := c) (by omega)
      rw [List.getD_eq_getElem?_getD, ex]
      show x = .never ↔ _
      rcases oc_kind ix with ⟨kk, tt, rfl, h⟩ | ⟨rfl, h⟩
      · exact ⟨fun e => (nomatch e), fun z => absurd h (z tt)⟩
      · exact ⟨fun _ => h, fun _ => rfl⟩
    -- who is never served
    refine ⟨fun σ' H' => ∃ qn, σ' = [some (.ref a), some (.ref u), some (.ref g), some (.ref t), some (.ref sb), some (.ref wb), some (.int n), some (.ref RA), some (.ref qA), some (.ref qn), none, none, none, none, none, none] ∧ Same H8 H' ∧ H' qn = some (.lst ((nevL ocA ocA.length).map nV)), ?_, ?_⟩
    · refine ⟨_, rfl, qA, _, rfl, SqL.of hqA, fun D hD => lc_it (walk_enum (a := qA) (xs := xsA.map V.ref)) (fun i H' => Same H8 H' ∧ H' D = some (.lst ((nevL ocA i).map nV))) ⟨same_new hD, upd_same⟩ (fun i H' _ z => SqL.of (z.1 _ _ hqA)) (fun i x H3 H4 hi z hy => ?_) (fun H3 z => ?_)⟩
      · obtain ⟨S3, hD3⟩ := z
        obtain ⟨T2, x1, y1, rfl, hT, rfl, hx1, hy1⟩ := hy
        obtain rfl := Option.some.inj hx1
        rw [List.length_map, OA.ul] at hi
        have hy1 : (xsA.map V.ref)[i]? = some y1 := hy1
        rw [List.getElem?_map, Option.map_eq_some_iff] at hy1
        obtain ⟨r0, er0, rfl⟩ := hy1
        obtain ⟨r, er, hr0⟩ := OA.l.2 i _ (List.getElem?_eq_getElem hi)
        rw [er0] at er
        obtain rfl := Option.some.inj er
        have gd : ocA.getD i .ended = ocA[i] := by rw [List.getD_eq_getElem?_getD, List.getElem?_eq_getElem hi]; rfl
        have sT := same_new (o := .tup [V.int (i : Nat), .ref r0]) hT
        have hT4 : (upd H3 T2 (.tup [V.int (i : Nat), .ref r0])) T2 = some (.tup [V.int (i : Nat), .ref r0]) := upd_same
        generalize (upd H3 T2 (.tup [V.int (i : Nat), .ref r0])) = H4 at sT hT4 ⊢
        refine ⟨T2, _, rfl, SqT.of hT4, rfl, _, _, rfl, _, _, rfl, rfl, rfl, ?_⟩
        refine ⟨_, rfl, (by show 1 ≤ sizeLine; decide), fun tt htt => ?_⟩
        have st := same_new (o := .tup Oc.never.vs) htt
        have S5 := (S3.trans sT).trans st
        refine ⟨ocD ocA[i], ocD .never, ocD_dp (S5 _ _ hr0), ocD_dp upd_same, ocD_shaped _, ocD_shaped _, _, rfl, ?_⟩
        rw [ocD_eqv]
        have ln := nevL_len ocA i
        have hD5 := (sT.trans st) _ _ hD3
        by_cases hn : ocA[i] = .never
        · refine iteTb (decide_eq_true hn) ⟨_, rfl, _, hD5, by rw [List.length_map]; exact small1000 (by omega), same_app hD S5, ?_⟩
          rw [upd_same, nevL_succ, if_pos (by rw [gd]; exact hn), List.map_append]
          rfl
        · refine iteFb (decide_eq_false hn) ⟨S5, ?_⟩
          rw [nevL_succ, if_neg (by rw [gd]; exact hn), List.append_nil]
          exact hD5
      · obtain ⟨S3, hD3⟩ := z
        rw [List.length_map, OA.ul] at hD3
        exact ⟨D, rfl, S3, hD3⟩
    rintro _ H9 ⟨qn, rfl, S9, hqn⟩
    rw [loA] at hqn
    have mem : ∀ c, c ∈ nevL ocA bs.length ↔ c < bs.length ∧ ∀ t, (t, c) ∉ VA := fun c => by
      rw [nevL_mem]
      exact ⟨fun h => ⟨h.1, (nev c h.1).mp h.2⟩, fun h => ⟨h.1, (nev c h.1).mpr h.2⟩⟩
    have lenN := nevL_len ocA bs.length
    have l8 := ok.l8
    have ml := ok.ml
    have B9 := BN.kx (Kx.of S9)
    -- they meet one another
    refine ⟨fun σ' H' => ∃ v10 v11 v12, σ' = [some (.ref a), some (.ref u), some (.ref g), some (.ref t), some (.ref sb), some (.ref wb), some (.int n), some (.ref RA), some (.ref qA), some (.ref qn), v10, v11, v12, none, none, none] ∧ Same H9 H', ?_, ?_⟩
    · refine ⟨_, rfl, qn, rfl, ⟨_, SqL.of hqn⟩, for_list (a := qn) (xs := (nevL ocA bs.length).map nV) (fun i σ H' => ∃ v10 v11 v12, σ = [some (.ref a), some (.ref u), some (.ref g), some (.ref t), some (.ref sb), some (.ref wb), some (.int n), some (.ref RA), some (.ref qA), some (.ref qn), v10, v11, v12, none, none, none] ∧ Same H9 H') ⟨none, none, none, rfl, Same.refl _⟩ (fun i σ H' _ z => by obtain ⟨_, _, _, _, S⟩ := z; exact SqL.of (S _ _ hqn)) ?_ (fun σ H' z => z)⟩
      rintro i x σ Ha hx ⟨v10, v11, v12, rfl, Sa⟩
      obtain ⟨c, hcx, rfl⟩ := natM_at hx
      have hc := (mem c).mp (List.mem_of_getElem? hcx)
      refine ⟨(by show 0 ≤ sizeLine; decide), fun O hO => ?_⟩
      have Sb := same_new (o := .lst ([] : List V)) hO
      have hO1 : (upd Ha O (.lst ([] : List V))) O = some (.lst []) := upd_same
      have hqnO : qn ≠ O := ne_of_none (Sa _ _ hqn) hO
      generalize upd Ha O (.lst ([] : List V)) = Hb at Sb hO1
      refine ⟨fun σ' H' => ∃ v12, σ' = [some (.ref a), some (.ref u), some (.ref g), some (.ref t), some (.ref sb), some (.ref wb), some (.int n), some (.ref RA), some (.ref qA), some (.ref qn), some (.int (c : Int)), some (.ref O), v12, none, none, none] ∧ Same Ha H' ∧ H' O = some (.lst ((othR gs m bs (nevL ocA bs.length) c).map V.int)), ?_, ?_⟩
      · refine ⟨_, rfl, qn, rfl, ⟨_, SqL.of (Sb _ _ (Sa _ _ hqn))⟩, for_list (a := qn) (xs := (nevL ocA bs.length).map nV) (fun j σ H' => ∃ v12, σ = [some (.ref a), some (.ref u), some (.ref g), some (.ref t), some (.ref sb), some (.ref wb), some (.int n), some (.ref RA), some (.ref qA), some (.ref qn), some (.int (c : Int)), some (.ref O), v12, none, none, none] ∧ Same Ha H' ∧ H' O = some (.lst ((othR gs m bs ((nevL ocA bs.length).take j) c).map V.int))) ⟨v12, rfl, Sb, hO1⟩ (fun j σ H' _ z => by obtain ⟨_, _, S, _⟩ := z; exact SqL.of (S _ _ (Sa _ _ hqn))) ?_ ?_⟩
        · rintro j x σ Hc hx ⟨v12, rfl, Sc, hOc⟩
          obtain ⟨o, hox, rfl⟩ := natM_at hx
          have ho := (mem o).mp (List.mem_of_getElem? hox)
          have tk : (nevL ocA bs.length).take (j + 1) = (nevL ocA bs.length).take j ++ [o] := by rw [List.take_add_one, hox]; rfl
          have lo := othR_len gs m bs c ((nevL ocA bs.length).take j)
          have lt : ((nevL ocA bs.length).take j).length * m ≤ 6 * 8 := Nat.mul_le_mul (by rw [List.length_take]; omega) (by omega)
          have Bc := B9.kx (Kx.of (Sa.trans Sc))
          refine ⟨_, rfl, .inl ⟨rfl, _, SqL.of hOc⟩, ?_⟩
          refine ⟨_, rfl, _, rfl, a, u, g, t, sb, wb, n, gs, m, bs, rs, ws, o, rfl, Bc, okG, ok.m1, ml, ho.1, fun q Hd hq0 Sd hq => ?_⟩
          have hOd := Sd _ _ hOc
          have hOq : O ≠ q := ne_of_none hOc hq0
          by_cases e : o = c
          · refine ⟨_, rfl, _, rfl, rfl, .inr ⟨_, rfl, ?_⟩⟩
            rw [show (!decide (V.int (o : Int) = V.int (c : Int))) = false by rw [e, decide_eq_true rfl]; rfl]
            refine ⟨q, 0, _, rfl, rfl, hq, by decide, by decide, by show _ * 0 ≤ _; omega, fun p hp => ?_⟩
            have Sp := same_new (o := .lst (List.replicate ((0 : Int)).toNat ((resid gs m (bs.getD o 0)).map V.int)).flatten) hp
            refine ⟨O, p, _, [], rfl, rfl, Sp _ _ hOd, by rw [upd_same]; rfl, ?_, _, rfl, same_app hO ((Sc.trans Sd).trans Sp), ?_⟩
            · rw [List.length_map]
              exact Nat.le_of_lt (small1000 (by show _ + 0 ≤ _; omega))
            · rw [upd_same, tk, othR_snoc, if_pos e, List.append_nil, List.append_nil]
          · refine ⟨_, rfl, _, rfl, rfl, .inr ⟨_, rfl, ?_⟩⟩
            rw [show (!decide (V.int (o : Int) = V.int (c : Int))) = true by rw [decide_eq_false (fun z => e (by have := V.int.inj z; omega))]; rfl]
            have lr := resid_len gs m (bs.getD o 0)
            refine ⟨q, 1, _, rfl, rfl, hq, by decide, by decide, by rw [List.length_map, lr]; exact Nat.le_of_lt (small1000 (by show m * 1 ≤ 1000; omega)), fun p hp => ?_⟩
            have Sp := same_new (o := .lst (List.replicate ((1 : Int)).toNat ((resid gs m (bs.getD o 0)).map V.int)).flatten) hp
            refine ⟨O, p, _, (resid gs m (bs.getD o 0)).map V.int, rfl, rfl, Sp _ _ hOd, by rw [upd_same, rep_one], ?_, _, rfl, same_app hO ((Sc.trans Sd).trans Sp), ?_⟩
            · rw [List.length_map, List.length_map, lr]
              exact Nat.le_of_lt (small1000 (by omega))
            · rw [upd_same, tk, othR_snoc, if_neg e, List.map_append]
        · rintro σ Hc ⟨v12, rfl, Sc, hOc⟩
          rw [List.length_map, List.take_length] at hOc
          exact ⟨v12, rfl, Sc, hOc⟩
      rintro _ Hc ⟨v12, rfl, Sc, hOc⟩
      have Bc := B9.kx (Kx.of (Sa.trans Sc))
      refine ⟨_, rfl, _, rfl, a, u, g, t, sb, wb, n, gs, m, bs, rs, ws, c, rfl, Bc, okG, ok.m1, ml, hc.1, fun q Hd hq0 Sd hq => ?_⟩
      have hOd := Sd _ _ hOc
      refine ⟨q, rfl, ⟨_, SqL.of hq⟩, fun D hD => lc_list (a := q) (xs := (resid gs m (bs.getD c 0)).map V.int) (fun m' H' => Same Hd H' ∧ H' D = some (.lst [])) ⟨same_new hD, upd_same⟩ (fun m' H' _ p => SqL.of (p.1 _ _ hq)) (fun m' z H' hz p => ?_) (fun H' p => ?_)⟩
      · obtain ⟨S, hd⟩ := p
        obtain ⟨y, hy, rfl⟩ := map_of hz
        obtain ⟨c', h1, h2, h3, h4⟩ := res_never okG okT runA hc.1 hc.2 (List.mem_of_getElem? hy)
        have hm : y ∈ othR gs m bs (nevL ocA bs.length) c := othR_mem ((mem c').mpr ⟨h1, h3⟩) h2 h4
        refine ⟨rfl, ?_⟩
        refine ⟨_, rfl, _, rfl, O, _, rfl, .inl (SqL.of (S _ _ hOd)), rfl, ints_flat _, _, rfl, ?_⟩
        rw [if_pos rfl, inV_int, decide_eq_true hm]
        exact iteF ⟨S, hd⟩
      · obtain ⟨S, hd⟩ := p
        refine ⟨(by show 0 ≤ sizeLine; decide), fun l3 hl3 => ?_⟩
        have s3 := same_new (o := .lst ([] : List V)) hl3
        refine ⟨D, l3, _, rfl, rfl, SqL.of (s3 _ _ hd), SqL.of upd_same, _, rfl, iteF ⟨_, _, _, rfl, ?_⟩⟩
        exact (((Sa.trans Sc).trans Sd).trans S).trans s3
    rintro _ HB ⟨v10, v11, v12, rfl, SB⟩
    -- who is served
    have hqA1 := SB _ _ (S9 _ _ hqA)
    have OAB := OA.l.same (S9.trans SB)
    have BB := B9.kx (Kx.of SB)
    have RuB := RuN.kx (Kx.of (S9.trans SB))
    have kxB := kxN.trans (Kx.of (S9.trans SB))
    have ttB : ∀ p ∈ VA, p.1 < 100000000000000 := fun p hp => by
      obtain ⟨i, hi⟩ := List.mem_iff_getElem?.mp hp
      have hil := (List.getElem?_eq_some_iff.mp hi).1
      have hSl : VA.length ≤ bs.length := by
        have := nd_len (m := List.range bs.length) (run_nodup runA) fun c hc => by
          obtain ⟨p, hp, rfl⟩ := List.mem_map.mp hc
          exact List.mem_range.mpr ((runA.is p.1 p.2).mp hp).lt
        rw [List.length_map, List.length_range] at this
        exact this
      have pr : ∀ j, j ≤ gs.length → pre gs j ≤ 102000000000 * (j : Int) := fun j => by
        induction j with
        | zero => intro _; rw [pre_zero]; decide
        | succ j ih =>
          intro hj
          have := ih (by omega)
          have := (ok.gb _ (List.mem_of_getElem? (getD_get (gs := gs) (k := j) (by omega)))).2
          rw [pre_succD (by omega)]
          omega
      have pl := pr (gs.length - m) (by omega)
      have p8 := pr gs.length (Nat.le_refl _)
      have bd := run_rep okG okT rfl runA (T0 := 2000000000000) (fun c hc => by
        have := ok.bb _ (List.mem_of_getElem? (getD_get hc))
        omega) (fun w hw' => by
        have := (ok.wb w hw').2
        omega) ok.n1 i _ hi
      have pp : per gs m ≤ 816000000000 := by
        have := pre_nn okG (k := gs.length - m) (by omega)
        unfold per
        omega
      have n8 := ok.n8
      have n1 := ok.n1
      have m8 : ((i + 1 : Nat) : Int) * (per gs m + n) ≤ 6 * (per gs m + n) := Int.mul_le_mul_of_nonneg_right (by omega) (by have := (per_bd okG ok.m1 ml).1; omega)
      omega
    refine ⟨_, rfl, qA, _, rfl, SqL.of hqA1, for_it (walk_enum (a := qA) (xs := xsA.map V.ref)) (fun i σ H' => ∃ v10 v11 v12 v13 v14, σ = [some (.ref a), some (.ref u), some (.ref g), some (.ref t), some (.ref sb), some (.ref wb), some (.int n), some (.ref RA), some (.ref qA), some (.ref qn), v10, v11, v12, v13, v14, none] ∧ Same HB H') ⟨v10, v11, v12, none, none, rfl, Same.refl _⟩ (fun i σ H' _ z => by obtain ⟨_, _, _, _, _, _, S⟩ := z; exact SqL.of (S _ _ hqA1)) ?_ ?_⟩
    · rintro i x σ Ha Hb hi ⟨v10, v11, v12, v13, v14, rfl, Sa⟩ ⟨T2, x1, y1, rfl, hT, rfl, hx1, hy1⟩
      obtain rfl := Option.some.inj hx1
      rw [List.length_map, OA.ul] at hi
      have hy1 : (xsA.map V.ref)[i]? = some y1 := hy1
      rw [List.getElem?_map, Option.map_eq_some_iff] at hy1
      obtain ⟨r0, er0, rfl⟩ := hy1
      obtain ⟨r, er, hr0⟩ := OAB.2 i _ (List.getElem?_eq_getElem hi)
      rw [er0] at er
      obtain rfl := Option.some.inj er
      have ioc := (OA.at_ i _ (List.getElem?_eq_getElem hi)).1
      generalize ocA[i] = oc at hr0 ioc
      have sT := same_new (o := .tup [V.int (i : Nat), .ref r0]) hT
      have hT4 : (upd Ha T2 (.tup [V.int (i : Nat), .ref r0])) T2 = some (.tup [V.int (i : Nat), .ref r0]) := upd_same
      have Sb := Sa.trans sT
      generalize (upd Ha T2 (.tup [V.int (i : Nat), .ref r0])) = Hb at Sb hT4 ⊢
      have hrb := Sb _ _ hr0
      refine ⟨T2, _, rfl, SqT.of hT4, rfl, _, _, rfl, _, _, rfl, rfl, ?_⟩
      refine ⟨_, rfl, r0, _, _, _, rfl, rfl, SqT.of hrb, oc.at0, rfl, _, rfl, ?_⟩
      cases oc with
      | ended => exact absurd ioc.2 (fun e => nomatch e)
      | never =>
        refine iteFb wNS ?_
        refine ⟨_, rfl, (by show 1 ≤ sizeLine; decide), fun tt htt => ?_⟩
        have st := same_new (o := .tup Oc.never.vs) htt
        refine ⟨ocD .never, ocD .never, ocD_dp (st _ _ hrb), ocD_dp upd_same, ocD_shaped _, ocD_shaped _, _, rfl, iteFb ?_ ⟨_, _, _, _, _, rfl, Sb.trans st⟩⟩
        rw [ocD_eqv, decide_eq_true rfl]
        rfl
      | served kk tt =>
        have hS := ioc.1
        have hlt : i < bs.length := by omega
        have bt := ttB _ hS
        simp only at bt
        refine iteTb wSS ?_
        have Rub := RuB.kx (Kx.of Sb)
        obtain ⟨dxb, hobb⟩ := Rub.ob
        refine ⟨_, rfl, RA, dxb, _, rfl, hobb, rnf_no (by decide +kernel) (by decide +kernel) (by decide +kernel), _, rfl, r0, _, _, .int tt, rfl, rfl, SqT.of hrb, atI_nat (j := 2) rfl, a, RA, pA, rA, gA, tA, oA, slA, wlA, qoA, doA, ⟨gs, .rep m, bs, ws, n⟩, _, usA, VA, ksA, lvA, 41, tt, rfl, Rub, fun z Hz Sz hz0 hz => ?_⟩
        have hzz : Hz z = some (.lst ((actL ⟨gs, .rep m, bs, ws, n⟩ VA tt).map nV)) := hz
        have actm : ∀ o ∈ actL ⟨gs, .rep m, bs, ws, n⟩ VA tt, o < bs.length := fun o ho => List.mem_range.mp (List.mem_filter.mp ho).1
        have lact : (actL ⟨gs, .rep m, bs, ws, n⟩ VA tt).length ≤ bs.length := by
          unfold actL
          have := List.length_filter_le (actB ⟨gs, .rep m, bs, ws, n⟩ VA tt) (List.range bs.length)
          rw [List.length_range] at this
          exact this
        have als : (actL ⟨gs, .rep m, bs, ws, n⟩ VA tt).filter (fun c => attB ⟨gs, .rep m, bs, ws, n⟩ (tt - bs.getD c 0)) = [i] := att_served (D := ⟨gs, .rep m, bs, ws, n⟩) okG okT runA hS
        generalize actL ⟨gs, .rep m, bs, ws, n⟩ VA tt = al at hzz actm lact als
        have Szb := Sb.trans Sz
        have hrz := Sz _ _ hrb
        have Bz := BB.kx (Kx.of Szb)
        refine ⟨z, rfl, ⟨_, SqL.of hzz⟩, fun D hD => lc_list (a := z) (xs := al.map nV) (fun j H' => Same Hz H' ∧ H' D = some (.lst (((al.take j).filter (fun c => attB ⟨gs, .rep m, bs, ws, n⟩ (tt - bs.getD c 0))).map nV))) ⟨same_new hD, upd_same⟩ (fun j H' _ p => SqL.of (p.1 _ _ hzz)) (fun j x H' hx p => ?_) (fun H' p => ?_)⟩
        · obtain ⟨S, hd⟩ := p
          obtain ⟨o, hox, rfl⟩ := natM_at hx
          have ho := actm o (List.mem_of_getElem? hox)
          have tk : al.take (j + 1) = al.take j ++ [o] := by rw [List.take_add_one, hox]; rfl
          have lf := List.length_filter_le (fun c => attB ⟨gs, .rep m, bs, ws, n⟩ (tt - bs.getD c 0)) (al.take j)
          rw [List.length_take] at lf
          refine ⟨rfl, ?_⟩
          refine ⟨_, rfl, _, rfl, _, rfl, r0, _, _, .int tt, rfl, rfl, SqT.of (S _ _ hrz), atI_nat (j := 2) rfl, _, rfl, _, rfl, sb, _, _, .int (bs.getD o 0), rfl, rfl, SqL.of (S _ _ Bz.hs), at_map (getD_get ho), _, _, rfl, rfl, g, t, gs, m, tt - bs.getD o 0, rfl, S _ _ Bz.hg, S _ _ Bz.ht, okG, ok.m1, ml, fun b H2 S2 hb => ?_⟩
          have eb : attB ⟨gs, .rep m, bs, ws, n⟩ (tt - bs.getD o 0) = b := by
            rw [Bool.eq_iff_iff, attB_iff, hb]
            exact ⟨fun ⟨k, _, e⟩ => ⟨k, e⟩, fun ⟨k, e⟩ => ⟨k, (fun z => nomatch z), e⟩⟩
          refine ⟨_, rfl, ?_⟩
          cases b with
          | true =>
            refine iteT ⟨_, rfl, _, S2 _ _ hd, by rw [List.length_map]; exact small1000 (by omega), same_app hD (S.trans S2), ?_⟩
            rw [upd_same, tk, List.filter_append, List.filter_cons, eb, if_pos rfl, List.map_append]
            rfl
          | false =>
            refine iteF ⟨S.trans S2, ?_⟩
            rw [tk, List.filter_append, List.filter_cons, eb, if_neg (by decide), List.filter_nil, List.append_nil]
            exact S2 _ _ hd
        · obtain ⟨S, hd⟩ := p
          rw [List.length_map, List.take_length, als] at hd
          have Szd := Szb.trans S
          refine ⟨_, rfl, _, rfl, (by show 1 ≤ sizeLine; decide), fun l1 hl1 => ?_⟩
          have s1 := same_new (o := .lst [V.int (i : Nat)]) hl1
          refine ⟨natD [i], natD [i], nat_dp (s1 _ _ hd), nat_dp (as := [i]) upd_same, nat_shaped _, nat_shaped _, _, rfl, iteFb (by rw [nat_eqv]; rfl) ?_⟩
          have S5 := Szd.trans s1
          have Ru5 := RuB.kx (Kx.of S5)
          obtain ⟨dx5, hob5⟩ := Ru5.ob
          refine ⟨_, rfl, RA, dx5, _, rfl, hob5, rnf_no (by decide +kernel) (by decide +kernel) (by decide +kernel), _, rfl, r0, _, _, .int tt, rfl, rfl, SqT.of (S5 _ _ hr0), atI_nat (j := 2) rfl, a, RA, pA, rA, gA, tA, oA, slA, wlA, qoA, doA, ⟨gs, .rep m, bs, ws, n⟩, _, usA, VA, ksA, lvA, 41, tt, rfl, Ru5, fun c hc => ?_, fun x y xs H6 S6 hx0 hx hy ev => ?_⟩
          · have hc : c < bs.length := hc
            have := ok.bb _ (List.mem_of_getElem? (getD_get hc))
            have e2 : (2 : Int) ^ 200 = 1606938044258990275541962092341162602522202993782792835301376 := by decide
            show tt - bs.getD c 0 < 2 ^ 200
            rw [e2]
            omega
          have exs := ev_served (D := ⟨gs, .rep m, bs, ws, n⟩) okG okT runA hS ev
          subst exs
          refine ⟨_, rfl, (by show 2 ≤ sizeLine; decide), fun l2 hl2 => ?_⟩
          have s2 := same_new (o := .tup [V.str "served", V.int (i : Nat)]) hl2
          refine ⟨.tuple [.str "served", .int (i : Nat)], .tuple [.str "served", .int (i : Nat)], .tup (SqT.of (s2 _ _ hx)) (.cons (.str _) (.cons (.int _) .nil)), .tup (SqT.of upd_same) (.cons (.str _) (.cons (.int _) .nil)), ev2_shaped (by decide +kernel) rfl (by simp [PyData.depth]), ev2_shaped (by decide +kernel) rfl (by simp [PyData.depth]), _, rfl, iteFb ?_ ⟨_, _, _, _, _, rfl, (S5.trans S6).trans s2⟩⟩
          rw [ev2_eqv (by simp [PyData.eqv])]
          rfl
    · rintro σ Ha ⟨v10, v11, v12, v13, v14, rfl, Sa⟩
      exact k _ (kxB.trans (Kx.of Sa))
end
end RS
namespace RS
open PySem L2
/-- the law's promise: a list of at most 63 ints is handed in, True comes out -/
def spLaw (K : PySem.W.Frag) : Sp := fun vs H Q _ => ∃ (a : Addr) (ns : List Int), vs = [.ref a] ∧ SqL K H a (ns.map V.int) ∧ ns.length ≤ 63 ∧ ∀ H', Q (.bl true) H'
end RS
namespace RS
open PySem L2
theorem scLaw : FnScope ["_law_script", "_law_cell"] ["_law_script"] (defScope s_law) := ⟨rfl, rfl, rfl, by decide +kernel, rfl, by decide +kernel, by decide +kernel⟩
section
variable {P : Program} {w : World} {K : PySem.W.Frag} {mg : Str → Option Value} {base : Heap}
theorem ok_law {f C fR fW : Addr} {fd fdR fdW : FuncData} (F : Fun K "law" "law" s_law f fd) (T : Txt K mg C)
    (GR : FnOk P w K mg base CX0 11 fR fdR ["_law_well_here"] spRt33) (bR : Binds K fdR ["_law_well_here"] []) (mR : mg "_law_right" = some (.ref fR)) (kR : PySem.W.keepIn K (.ref fR) = true)
    (GW : FnOk P w K mg base CX0 1 fW fdW ["_law_cell"] spWell) (bW : Binds K fdW ["_law_cell"] []) (mW : mg "_law_well" = some (.ref fW)) (kW : PySem.W.keepIn K (.ref fW) = true) :
    FnOk P w K mg base CX0 12 f fd ["_law_script"] (spLaw K) := by
  refine F.ok scLaw (fun vs H Q E h => ?_) (fun cdv A outer s H vs Q E hr h => ?_)
  · obtain ⟨a, ns, rfl, _⟩ := h
    rfl
  · obtain ⟨sc, ns, rfl, hs, hn, k⟩ := h
    have hr1 := hr.mono (show 1 ≤ 11 by decide)
    refine ⟨_, (pss_cons (ps_for PassesOwn.never rfl (pi_list (pe_op op_cat (pe_slice sl_list (pv 0) po_none (po_some pe_int)) (pe_lst (pa_cons pe_int pa_nil)))) (pg_name (i := 1) scLaw.nd rfl (Or.inl rfl))
      (pss_one (ps_if (pt_not (pt_val (pe_call GR hr rfl mR kR bR .nil pass0 (pa_cons (pe_call GW hr1 rfl mW kW bW .nil pass0 (pa_cons (pv 1) pa_nil)) pa_nil)))) (pss_one (ps_ret pe_bl)) pss_nil))) (pss_one (ps_ret pe_bl))), ?_⟩
    refine ⟨_, rfl, _, rfl, sc, _, rfl, hs, fun l1 hl1 => ?_⟩
    refine ⟨(by show 1 ≤ sizeLine; decide), fun l2 hl2 => ?_⟩
    have hl1' := same_new (o := .lst [V.int 0]) hl2 _ _ (upd_same (H := H) (a := l1) (o := .lst (cutV (ns.map V.int) none (some 3))))
    have ecs : cutV (ns.map V.int) none (some 3) ++ [V.int 0] = (ns.take 3 ++ [0]).map V.int := by
      rw [show (some (3 : Int)) = some ((3 : Nat) : Int) from rfl, cut_to, List.map_append, List.map_take]
      rfl
    refine ⟨l1, l2, _, _, rfl, rfl, hl1', upd_same, ?_, fun L hL => ?_⟩
    · rw [← List.length_append, ecs, List.length_map, List.length_append, List.length_take]
      exact Nat.le_of_lt (small1000 (by show min 3 ns.length + 1 ≤ 1000; omega))
    rw [ecs]
    have hL3 := upd_same (H := upd (upd H l1 (.lst (cutV (ns.map V.int) none (some 3)))) l2 (.lst [V.int 0])) (a := L) (o := .lst ((ns.take 3 ++ [0]).map V.int))
    generalize (upd (upd (upd H l1 (.lst (cutV (ns.map V.int) none (some 3)))) l2 (.lst [V.int 0])) L (.lst ((ns.take 3 ++ [0]).map V.int))) = H3 at hL3 ⊢
    generalize ns.take 3 ++ [0] = cs at hL3 ⊢
    clear ecs hl1' hL
    refine ⟨L, rfl, ⟨_, SqL.of hL3⟩, for_list (a := L) (xs := cs.map V.int) (fun i σ H' => (∃ v1, σ = [some (.ref sc), v1]) ∧ H' L = some (.lst (cs.map V.int))) ⟨⟨_, rfl⟩, hL3⟩ (fun i σ H' _ p => SqL.of p.2) ?_ (fun σ H' ⟨⟨v1, e⟩, _⟩ => by subst e; exact k H')⟩
    rintro i x σ H0 hx ⟨⟨v1, rfl⟩, hL0⟩
    obtain ⟨c, _, rfl⟩ := map_of hx
    refine ⟨_, rfl, c, rfl, fun a H1 ha S1 R1 => ?_⟩
    exact ⟨a, rfl, R1, fun H2 kx => ⟨true, rfl, iteF ⟨⟨_, rfl⟩, kx _ _ (ne_of_none hL0 ha) (S1 _ _ hL0)⟩⟩⟩
end
end RS
namespace RS
open PySem L2
/-! ### what the top has written -/
theorem all_mk {l : PySem.W.OpenLaw} {w : World} {K : PySem.W.Frag} {h : Heap} {mg : Str → Option Value} {fa : Addr}  (X : K.In h) (G : h.Ns mainGlobals mg) (hfa : mg "law" = some (.ref fa)) (hlong : ∃ t, mg "_LONGEST_GAP" = some (.int 1000000000000 t))
    {fa0 : Addr} {oda0 ana0 : Option Addr} {sla0 : Array (Option Value)} {oca0 kVa0 dca0 pma0 cta0 : Value}
    {cda0 : Value}
    {fa1 : Addr} {oda1 ana1 : Option Addr} {sla1 : Array (Option Value)} {oca1 kVa1 dca1 pma1 cta1 : Value}
    {cda1 : Value}
    {fa2 : Addr} {oda2 ana2 : Option Addr} {sla2 : Array (Option Value)} {oca2 kVa2 dca2 pma2 cta2 : Value}
    {cda2 : Value}
    {fa3 : Addr} {oda3 ana3 : Option Addr} {sla3 : Array (Option Value)} {oca3 kVa3 dca3 pma3 cta3 : Value}
    {cda3 : Value}
    {fa4 : Addr} {oda4 ana4 : Option Addr} {sla4 : Array (Option Value)} {oca4 kVa4 dca4 pma4 cta4 : Value}
    {cda4 : Value}
    {fa5 : Addr} {oda5 ana5 : Option Addr} {sla5 : Array (Option Value)} {oca5 kVa5 dca5 pma5 cta5 : Value}
    {cda5 : Value}
    {fr6 : Addr} {odr6 anr6 : Option Addr} {slr6 : Array (Option Value)} {ocr6 kVr6 dcr6 pmr6 ctr6 : Value}
    {cdr6 : Value}
    {fr7 : Addr} {odr7 anr7 : Option Addr} {slr7 : Array (Option Value)} {ocr7 kVr7 dcr7 pmr7 ctr7 : Value}
    {cdr7 : Value}
    {fr8 : Addr} {odr8 anr8 : Option Addr} {slr8 : Array (Option Value)} {ocr8 kVr8 dcr8 pmr8 ctr8 : Value}
    {cdr8 : Value}
    {fr9 : Addr} {odr9 anr9 : Option Addr} {slr9 : Array (Option Value)} {ocr9 kVr9 dcr9 pmr9 ctr9 : Value}
    {cdr9 : Value}
    {fr10 : Addr} {odr10 anr10 : Option Addr} {slr10 : Array (Option Value)} {ocr10 kVr10 dcr10 pmr10 ctr10 : Value}
    {cdr10 : Value}
    {fr11 : Addr} {odr11 anr11 : Option Addr} {slr11 : Array (Option Value)} {ocr11 kVr11 dcr11 pmr11 ctr11 : Value}
    {cdr11 : Value}
    {fr13 : Addr} {odr13 anr13 : Option Addr} {slr13 : Array (Option Value)} {ocr13 kVr13 dcr13 pmr13 ctr13 : Value}
    {cdr13 : Value}
    {fa16 : Addr} {oda16 ana16 : Option Addr} {sla16 : Array (Option Value)} {oca16 kVa16 dca16 pma16 cta16 : Value}
    {cda16 : Value}
    {fa17 : Addr} {oda17 ana17 : Option Addr} {sla17 : Array (Option Value)} {oca17 kVa17 dca17 pma17 cta17 : Value}
    {cda17 : Value}
    {fa18 : Addr} {oda18 ana18 : Option Addr} {sla18 : Array (Option Value)} {oca18 kVa18 dca18 pma18 cta18 : Value}
    {cda18 : Value}
    {fa19 : Addr} {oda19 ana19 : Option Addr} {sla19 : Array (Option Value)} {oca19 kVa19 dca19 pma19 cta19 : Value}
    {cda19 : Value}
    {fa20 : Addr} {oda20 ana20 : Option Addr} {sla20 : Array (Option Value)} {oca20 kVa20 dca20 pma20 cta20 : Value}
    {cda20 : Value}
    {fa21 : Addr} {oda21 ana21 : Option Addr} {sla21 : Array (Option Value)} {oca21 kVa21 dca21 pma21 cta21 : Value}
    {cda21 : Value}
    {fa22 : Addr} {oda22 ana22 : Option Addr} {sla22 : Array (Option Value)} {oca22 kVa22 dca22 pma22 cta22 : Value}
    {cda22 : Value}
    {fa23 : Addr} {oda23 ana23 : Option Addr} {sla23 : Array (Option Value)} {oca23 kVa23 dca23 pma23 cta23 : Value}
    {cda23 : Value}
    {fa24 : Addr} {oda24 ana24 : Option Addr} {sla24 : Array (Option Value)} {oca24 kVa24 dca24 pma24 cta24 : Value}
    {cda24 : Value}
    {fa25 : Addr} {oda25 ana25 : Option Addr} {sla25 : Array (Option Value)} {oca25 kVa25 dca25 pma25 cta25 : Value}
    {cda25 : Value}
    {fa26 : Addr} {oda26 ana26 : Option Addr} {sla26 : Array (Option Value)} {oca26 kVa26 dca26 pma26 cta26 : Value}
    {cda26 : Value}
    {fs27 : Addr} {ods27 ans27 : Option Addr} {sls27 : Array (Option Value)} {ocs27 kVs27 dcs27 pms27 cts27 : Value}
    {cds27 : Value}
    {fl28 : Addr} {odl28 anl28 : Option Addr} {sll28 : Array (Option Value)} {ocl28 kVl28 dcl28 pml28 ctl28 : Value}
    {cdl28 : Value}
    {fl29 : Addr} {odl29 anl29 : Option Addr} {sll29 : Array (Option Value)} {ocl29 kVl29 dcl29 pml29 ctl29 : Value}
    {cdl29 : Value}
    {fl30 : Addr} {odl30 anl30 : Option Addr} {sll30 : Array (Option Value)} {ocl30 kVl30 dcl30 pml30 ctl30 : Value}
    {cdl30 : Value}
    {fl31 : Addr} {odl31 anl31 : Option Addr} {sll31 : Array (Option Value)} {ocl31 kVl31 dcl31 pml31 ctl31 : Value}
    {cdl31 : Value}
    {fl32 : Addr} {odl32 anl32 : Option Addr} {sll32 : Array (Option Value)} {ocl32 kVl32 dcl32 pml32 ctl32 : Value}
    {cdl32 : Value}
    {fl33 : Addr} {odl33 anl33 : Option Addr} {sll33 : Array (Option Value)} {ocl33 kVl33 dcl33 pml33 ctl33 : Value}
    {cdl33 : Value}
    {fs34 : Addr} {ods34 ans34 : Option Addr} {sls34 : Array (Option Value)} {ocs34 kVs34 dcs34 pms34 cts34 : Value}
    {cds34 : Value}
    {fs35 : Addr} {ods35 ans35 : Option Addr} {sls35 : Array (Option Value)} {ocs35 kVs35 dcs35 pms35 cts35 : Value}
    {cds35 : Value}
    {fa36 : Addr} {oda36 ana36 : Option Addr} {sla36 : Array (Option Value)} {oca36 kVa36 dca36 pma36 cta36 : Value}
    {cda36 : Value}
    {fs37 : Addr} {ods37 ans37 : Option Addr} {sls37 : Array (Option Value)} {ocs37 kVs37 dcs37 pms37 cts37 : Value}
    {cds37 : Value}
    {fs38 : Addr} {ods38 ans38 : Option Addr} {sls38 : Array (Option Value)} {ocs38 kVs38 dcs38 pms38 cts38 : Value}
    {cds38 : Value}
    {fs39 : Addr} {ods39 ans39 : Option Addr} {sls39 : Array (Option Value)} {ocs39 kVs39 dcs39 pms39 cts39 : Value}
    {cds39 : Value}
    {fs40 : Addr} {ods40 ans40 : Option Addr} {sls40 : Array (Option Value)} {ocs40 kVs40 dcs40 pms40 cts40 : Value}
    {cds40 : Value}
    {fc41 : Addr} {odc41 anc41 : Option Addr} {slc41 : Array (Option Value)} {occ41 kVc41 dcc41 pmc41 ctc41 : Value}
    {cdc41 : Value}
    {fc42 : Addr} {odc42 anc42 : Option Addr} {slc42 : Array (Option Value)} {occ42 kVc42 dcc42 pmc42 ctc42 : Value}
    {cdc42 : Value}
    {fa43 : Addr} {oda43 ana43 : Option Addr} {sla43 : Array (Option Value)} {oca43 kVa43 dca43 pma43 cta43 : Value}
    {cda43 : Value}
    {fs44 : Addr} {ods44 ans44 : Option Addr} {sls44 : Array (Option Value)} {ocs44 kVs44 dcs44 pms44 cts44 : Value}
    {cds44 : Value}
    {fc45 : Addr} {odc45 anc45 : Option Addr} {slc45 : Array (Option Value)} {occ45 kVc45 dcc45 pmc45 ctc45 : Value}
    {cdc45 : Value}
    {fc46 : Addr} {odc46 anc46 : Option Addr} {slc46 : Array (Option Value)} {occ46 kVc46 dcc46 pmc46 ctc46 : Value}
    {cdc46 : Value}
    {fc47 : Addr} {odc47 anc47 : Option Addr} {slc47 : Array (Option Value)} {occ47 kVc47 dcc47 pmc47 ctc47 : Value}
    {cdc47 : Value}
    {fa48 : Addr} {oda48 ana48 : Option Addr} {sla48 : Array (Option Value)} {oca48 kVa48 dca48 pma48 cta48 : Value}
    {cda48 : Value}
    {fa49 : Addr} {oda49 ana49 : Option Addr} {sla49 : Array (Option Value)} {oca49 kVa49 dca49 pma49 cta49 : Value}
    {cda49 : Value}
    {fr50 : Addr} {odr50 anr50 : Option Addr} {slr50 : Array (Option Value)} {ocr50 kVr50 dcr50 pmr50 ctr50 : Value}
    {cdr50 : Value}
    {fr51 : Addr} {odr51 anr51 : Option Addr} {slr51 : Array (Option Value)} {ocr51 kVr51 dcr51 pmr51 ctr51 : Value}
    {cdr51 : Value}
    {fr52 : Addr} {odr52 anr52 : Option Addr} {slr52 : Array (Option Value)} {ocr52 kVr52 dcr52 pmr52 ctr52 : Value}
    {cdr52 : Value}
    {fr53 : Addr} {odr53 anr53 : Option Addr} {slr53 : Array (Option Value)} {ocr53 kVr53 dcr53 pmr53 ctr53 : Value}
    {cdr53 : Value}
    {fr54 : Addr} {odr54 anr54 : Option Addr} {slr54 : Array (Option Value)} {ocr54 kVr54 dcr54 pmr54 ctr54 : Value}
    {cdr54 : Value}
    {fa55 : Addr} {oda55 ana55 : Option Addr} {sla55 : Array (Option Value)} {oca55 kVa55 dca55 pma55 cta55 : Value}
    {cda55 : Value}
    {fs56 : Addr} {ods56 ans56 : Option Addr} {sls56 : Array (Option Value)} {ocs56 kVs56 dcs56 pms56 cts56 : Value}
    {cds56 : Value}
    {fr57 : Addr} {odr57 anr57 : Option Addr} {slr57 : Array (Option Value)} {ocr57 kVr57 dcr57 pmr57 ctr57 : Value}
    {cdr57 : Value}
    {fr58 : Addr} {odr58 anr58 : Option Addr} {slr58 : Array (Option Value)} {ocr58 kVr58 dcr58 pmr58 ctr58 : Value}
    {cdr58 : Value}
    {fr59 : Addr} {odr59 anr59 : Option Addr} {slr59 : Array (Option Value)} {ocr59 kVr59 dcr59 pmr59 ctr59 : Value}
    {cdr59 : Value}
    {fr60 : Addr} {odr60 anr60 : Option Addr} {slr60 : Array (Option Value)} {ocr60 kVr60 dcr60 pmr60 ctr60 : Value}
    {cdr60 : Value}
    {fr61 : Addr} {odr61 anr61 : Option Addr} {slr61 : Array (Option Value)} {ocr61 kVr61 dcr61 pmr61 ctr61 : Value}
    {cdr61 : Value}
    {fr62 : Addr} {odr62 anr62 : Option Addr} {slr62 : Array (Option Value)} {ocr62 kVr62 dcr62 pmr62 ctr62 : Value}
    {cdr62 : Value}
    {fr63 : Addr} {odr63 anr63 : Option Addr} {slr63 : Array (Option Value)} {ocr63 kVr63 dcr63 pmr63 ctr63 : Value}
    {cdr63 : Value}
    {fa64 : Addr} {oda64 ana64 : Option Addr} {sla64 : Array (Option Value)} {oca64 kVa64 dca64 pma64 cta64 : Value}
    {cda64 : Value}
    {fa65 : Addr} {oda65 ana65 : Option Addr} {sla65 : Array (Option Value)} {oca65 kVa65 dca65 pma65 cta65 : Value}
    {cda65 : Value}
    {fa66 : Addr} {oda66 ana66 : Option Addr} {sla66 : Array (Option Value)} {oca66 kVa66 dca66 pma66 cta66 : Value}
    {cda66 : Value}
    {fa67 : Addr} {oda67 ana67 : Option Addr} {sla67 : Array (Option Value)} {oca67 kVa67 dca67 pma67 cta67 : Value}
    {cda67 : Value}
    {C : Addr}
    {CS : Addr}
    {CR : Addr}
    {CLp : Addr}
    {CC : Addr}
    {CG : Addr}
    {tM : Tok}
    {tF : Tok}
    {tL : Tok}
    {tC : Tok}
    {tO : Tok}
    (Aa0 : PySem.W.nsIn K mainGlobals "law" = some (some (.ref fa0)))
    (La0 : K.lookup fa0 = some ⟨oca0, oda0, .func (PySem.W.fnOf "law" "law" (defArgs s_law) (defBody s_law) (defScope s_law) .none kVa0 dca0 pma0 ana0 cda0 cta0), sla0⟩) (Ca0 : PySem.W.codeIn K cda0 "law" = true) (Ka0 : PySem.W.keepIn K (.ref fa0) = true)
    (Aa1 : PySem.W.nsIn K mainGlobals "is_integer" = some (some (.ref fa1)))
    (La1 : K.lookup fa1 = some ⟨oca1, oda1, .func (PySem.W.fnOf "is_integer" "is_integer" (defArgs s_is_integer) (defBody s_is_integer) (defScope s_is_integer) .none kVa1 dca1 pma1 ana1 cda1 cta1), sla1⟩) (Ca1 : PySem.W.codeIn K cda1 "is_integer" = true) (Ka1 : PySem.W.keepIn K (.ref fa1) = true)
    (Aa2 : PySem.W.nsIn K mainGlobals "are_gaps" = some (some (.ref fa2)))
    (La2 : K.lookup fa2 = some ⟨oca2, oda2, .func (PySem.W.fnOf "are_gaps" "are_gaps" (defArgs s_are_gaps) (defBody s_are_gaps) (defScope s_are_gaps) .none kVa2 dca2 pma2 ana2 cda2 cta2), sla2⟩) (Ca2 : PySem.W.codeIn K cda2 "are_gaps" = true) (Ka2 : PySem.W.keepIn K (.ref fa2) = true)
    (Aa3 : PySem.W.nsIn K mainGlobals "_is_tail" = some (some (.ref fa3)))
    (La3 : K.lookup fa3 = some ⟨oca3, oda3, .func (PySem.W.fnOf "_is_tail" "_is_tail" (defArgs s_is_tail) (defBody s_is_tail) (defScope s_is_tail) .none kVa3 dca3 pma3 ana3 cda3 cta3), sla3⟩) (Ca3 : PySem.W.codeIn K cda3 "_is_tail" = true) (Ka3 : PySem.W.keepIn K (.ref fa3) = true)
    (Aa4 : PySem.W.nsIn K mainGlobals "sums" = some (some (.ref fa4)))
    (La4 : K.lookup fa4 = some ⟨oca4, oda4, .func (PySem.W.fnOf "sums" "sums" (defArgs s_sums) (defBody s_sums) (defScope s_sums) .none kVa4 dca4 pma4 ana4 cda4 cta4), sla4⟩) (Ca4 : PySem.W.codeIn K cda4 "sums" = true) (Ka4 : PySem.W.keepIn K (.ref fa4) = true)
    (Aa5 : PySem.W.nsIn K mainGlobals "_power" = some (some (.ref fa5)))
    (La5 : K.lookup fa5 = some ⟨oca5, oda5, .func (PySem.W.fnOf "_power" "_power" (defArgs s_power) (defBody s_power) (defScope s_power) .none kVa5 dca5 pma5 ana5 cda5 cta5), sla5⟩) (Ca5 : PySem.W.codeIn K cda5 "_power" = true) (Ka5 : PySem.W.keepIn K (.ref fa5) = true)
    (Ar6 : PySem.W.findIn K (.ref C) "__init__" = some (some (.ref fr6))) (Ir6 : PySem.W.isFn K (.ref fr6) = true)
    (Lr6 : K.lookup fr6 = some ⟨ocr6, odr6, .func (PySem.W.fnOf "__init__" "Rule.__init__" (defArgs s_Rule_ddinitdd) (defBody s_Rule_ddinitdd) (defScope s_Rule_ddinitdd) .none kVr6 dcr6 pmr6 anr6 cdr6 ctr6), slr6⟩) (Cr6 : PySem.W.codeIn K cdr6 "Rule.__init__" = true) (Kr6 : PySem.W.keepIn K (.ref fr6) = true)
    (Ar7 : PySem.W.findIn K (.ref C) "attempts" = some (some (.ref fr7))) (Ir7 : PySem.W.isFn K (.ref fr7) = true)
    (Lr7 : K.lookup fr7 = some ⟨ocr7, odr7, .func (PySem.W.fnOf "attempts" "Rule.attempts" (defArgs s_Rule_attempts) (defBody s_Rule_attempts) (defScope s_Rule_attempts) .none kVr7 dcr7 pmr7 anr7 cdr7 ctr7), slr7⟩) (Cr7 : PySem.W.codeIn K cdr7 "Rule.attempts" = true) (Kr7 : PySem.W.keepIn K (.ref fr7) = true)
    (Ar8 : PySem.W.findIn K (.ref C) "first_repeating" = some (some (.ref fr8))) (Ir8 : PySem.W.isFn K (.ref fr8) = true)
    (Lr8 : K.lookup fr8 = some ⟨ocr8, odr8, .func (PySem.W.fnOf "first_repeating" "Rule.first_repeating" (defArgs s_Rule_first_repeating) (defBody s_Rule_first_repeating) (defScope s_Rule_first_repeating) .none kVr8 dcr8 pmr8 anr8 cdr8 ctr8), slr8⟩) (Cr8 : PySem.W.codeIn K cdr8 "Rule.first_repeating" = true) (Kr8 : PySem.W.keepIn K (.ref fr8) = true)
    (Ar9 : PySem.W.findIn K (.ref C) "period" = some (some (.ref fr9))) (Ir9 : PySem.W.isFn K (.ref fr9) = true)
    (Lr9 : K.lookup fr9 = some ⟨ocr9, odr9, .func (PySem.W.fnOf "period" "Rule.period" (defArgs s_Rule_period) (defBody s_Rule_period) (defScope s_Rule_period) .none kVr9 dcr9 pmr9 anr9 cdr9 ctr9), slr9⟩) (Cr9 : PySem.W.codeIn K cdr9 "Rule.period" = true) (Kr9 : PySem.W.keepIn K (.ref fr9) = true)
    (Ar10 : PySem.W.findIn K (.ref C) "gaps" = some (some (.ref fr10))) (Ir10 : PySem.W.isFn K (.ref fr10) = true)
    (Lr10 : K.lookup fr10 = some ⟨ocr10, odr10, .func (PySem.W.fnOf "gaps" "Rule.gaps" (defArgs s_Rule_gaps) (defBody s_Rule_gaps) (defScope s_Rule_gaps) .none kVr10 dcr10 pmr10 anr10 cdr10 ctr10), slr10⟩) (Cr10 : PySem.W.codeIn K cdr10 "Rule.gaps" = true) (Kr10 : PySem.W.keepIn K (.ref fr10) = true)
    (Ar11 : PySem.W.findIn K (.ref C) "tail" = some (some (.ref fr11))) (Ir11 : PySem.W.isFn K (.ref fr11) = true)
    (Lr11 : K.lookup fr11 = some ⟨ocr11, odr11, .func (PySem.W.fnOf "tail" "Rule.tail" (defArgs s_Rule_tail) (defBody s_Rule_tail) (defScope s_Rule_tail) .none kVr11 dcr11 pmr11 anr11 cdr11 ctr11), slr11⟩) (Cr11 : PySem.W.codeIn K cdr11 "Rule.tail" = true) (Kr11 : PySem.W.keepIn K (.ref fr11) = true)
    (Ar13 : PySem.W.findIn K (.ref C) "_offset_of" = some (some (.ref fr13))) (Ir13 : PySem.W.isFn K (.ref fr13) = true)
    (Lr13 : K.lookup fr13 = some ⟨ocr13, odr13, .func (PySem.W.fnOf "_offset_of" "Rule._offset_of" (defArgs s_Rule_offset_of) (defBody s_Rule_offset_of) (defScope s_Rule_offset_of) .none kVr13 dcr13 pmr13 anr13 cdr13 ctr13), slr13⟩) (Cr13 : PySem.W.codeIn K cdr13 "Rule._offset_of" = true) (Kr13 : PySem.W.keepIn K (.ref fr13) = true)
    (Aa16 : PySem.W.nsIn K mainGlobals "_law_well" = some (some (.ref fa16)))
    (La16 : K.lookup fa16 = some ⟨oca16, oda16, .func (PySem.W.fnOf "_law_well" "_law_well" (defArgs s_law_well) (defBody s_law_well) (defScope s_law_well) .none kVa16 dca16 pma16 ana16 cda16 cta16), sla16⟩) (Ca16 : PySem.W.codeIn K cda16 "_law_well" = true) (Ka16 : PySem.W.keepIn K (.ref fa16) = true)
    (Aa17 : PySem.W.nsIn K mainGlobals "_law_mixed" = some (some (.ref fa17)))
    (La17 : K.lookup fa17 = some ⟨oca17, oda17, .func (PySem.W.fnOf "_law_mixed" "_law_mixed" (defArgs s_law_mixed) (defBody s_law_mixed) (defScope s_law_mixed) .none kVa17 dca17 pma17 ana17 cda17 cta17), sla17⟩) (Ca17 : PySem.W.codeIn K cda17 "_law_mixed" = true) (Ka17 : PySem.W.keepIn K (.ref fa17) = true)
    (Aa18 : PySem.W.nsIn K mainGlobals "_law_draw" = some (some (.ref fa18)))
    (La18 : K.lookup fa18 = some ⟨oca18, oda18, .func (PySem.W.fnOf "_law_draw" "_law_draw" (defArgs s_law_draw) (defBody s_law_draw) (defScope s_law_draw) .none kVa18 dca18 pma18 ana18 cda18 cta18), sla18⟩) (Ca18 : PySem.W.codeIn K cda18 "_law_draw" = true) (Ka18 : PySem.W.keepIn K (.ref fa18) = true)
    (Aa19 : PySem.W.nsIn K mainGlobals "_law_one" = some (some (.ref fa19)))
    (La19 : K.lookup fa19 = some ⟨oca19, oda19, .func (PySem.W.fnOf "_law_one" "_law_one" (defArgs s_law_one) (defBody s_law_one) (defScope s_law_one) .none kVa19 dca19 pma19 ana19 cda19 cta19), sla19⟩) (Ca19 : PySem.W.codeIn K cda19 "_law_one" = true) (Ka19 : PySem.W.keepIn K (.ref fa19) = true)
    (Aa20 : PySem.W.nsIn K mainGlobals "_law_windows" = some (some (.ref fa20)))
    (La20 : K.lookup fa20 = some ⟨oca20, oda20, .func (PySem.W.fnOf "_law_windows" "_law_windows" (defArgs s_law_windows) (defBody s_law_windows) (defScope s_law_windows) .none kVa20 dca20 pma20 ana20 cda20 cta20), sla20⟩) (Ca20 : PySem.W.codeIn K cda20 "_law_windows" = true) (Ka20 : PySem.W.keepIn K (.ref fa20) = true)
    (Aa21 : PySem.W.nsIn K mainGlobals "listed_offsets" = some (some (.ref fa21)))
    (La21 : K.lookup fa21 = some ⟨oca21, oda21, .func (PySem.W.fnOf "listed_offsets" "listed_offsets" (defArgs s_listed_offsets) (defBody s_listed_offsets) (defScope s_listed_offsets) .none kVa21 dca21 pma21 ana21 cda21 cta21), sla21⟩) (Ca21 : PySem.W.codeIn K cda21 "listed_offsets" = true) (Ka21 : PySem.W.keepIn K (.ref fa21) = true)
    (Aa22 : PySem.W.nsIn K mainGlobals "repeating_offsets" = some (some (.ref fa22)))
    (La22 : K.lookup fa22 = some ⟨oca22, oda22, .func (PySem.W.fnOf "repeating_offsets" "repeating_offsets" (defArgs s_repeating_offsets) (defBody s_repeating_offsets) (defScope s_repeating_offsets) .none kVa22 dca22 pma22 ana22 cda22 cta22), sla22⟩) (Ca22 : PySem.W.codeIn K cda22 "repeating_offsets" = true) (Ka22 : PySem.W.keepIn K (.ref fa22) = true)
    (Aa23 : PySem.W.nsIn K mainGlobals "are_two_integers" = some (some (.ref fa23)))
    (La23 : K.lookup fa23 = some ⟨oca23, oda23, .func (PySem.W.fnOf "are_two_integers" "are_two_integers" (defArgs s_are_two_integers) (defBody s_are_two_integers) (defScope s_are_two_integers) .none kVa23 dca23 pma23 ana23 cda23 cta23), sla23⟩) (Ca23 : PySem.W.codeIn K cda23 "are_two_integers" = true) (Ka23 : PySem.W.keepIn K (.ref fa23) = true)
    (Aa24 : PySem.W.nsIn K mainGlobals "are_slots" = some (some (.ref fa24)))
    (La24 : K.lookup fa24 = some ⟨oca24, oda24, .func (PySem.W.fnOf "are_slots" "are_slots" (defArgs s_are_slots) (defBody s_are_slots) (defScope s_are_slots) .none kVa24 dca24 pma24 ana24 cda24 cta24), sla24⟩) (Ca24 : PySem.W.codeIn K cda24 "are_slots" = true) (Ka24 : PySem.W.keepIn K (.ref fa24) = true)
    (Aa25 : PySem.W.nsIn K mainGlobals "check_starts" = some (some (.ref fa25)))
    (La25 : K.lookup fa25 = some ⟨oca25, oda25, .func (PySem.W.fnOf "check_starts" "check_starts" (defArgs s_check_starts) (defBody s_check_starts) (defScope s_check_starts) .none kVa25 dca25 pma25 ana25 cda25 cta25), sla25⟩) (Ca25 : PySem.W.codeIn K cda25 "check_starts" = true) (Ka25 : PySem.W.keepIn K (.ref fa25) = true)
    (Aa26 : PySem.W.nsIn K mainGlobals "_check_outages" = some (some (.ref fa26)))
    (La26 : K.lookup fa26 = some ⟨oca26, oda26, .func (PySem.W.fnOf "_check_outages" "_check_outages" (defArgs s_check_outages) (defBody s_check_outages) (defScope s_check_outages) .none kVa26 dca26 pma26 ana26 cda26 cta26), sla26⟩) (Ca26 : PySem.W.codeIn K cda26 "_check_outages" = true) (Ka26 : PySem.W.keepIn K (.ref fa26) = true)
    (As27 : PySem.W.findIn K (.ref CS) "__init__" = some (some (.ref fs27))) (Is27 : PySem.W.isFn K (.ref fs27) = true)
    (Ls27 : K.lookup fs27 = some ⟨ocs27, ods27, .func (PySem.W.fnOf "__init__" "Scene.__init__" (defArgs s_Scene_ddinitdd) (defBody s_Scene_ddinitdd) (defScope s_Scene_ddinitdd) .none kVs27 dcs27 pms27 ans27 cds27 cts27), sls27⟩) (Cs27 : PySem.W.codeIn K cds27 "Scene.__init__" = true) (Ks27 : PySem.W.keepIn K (.ref fs27) = true)
    (Al28 : PySem.W.findIn K (.ref CLp) "__init__" = some (some (.ref fl28))) (Il28 : PySem.W.isFn K (.ref fl28) = true)
    (Ll28 : K.lookup fl28 = some ⟨ocl28, odl28, .func (PySem.W.fnOf "__init__" "Loop.__init__" (defArgs s_Loop_ddinitdd) (defBody s_Loop_ddinitdd) (defScope s_Loop_ddinitdd) .none kVl28 dcl28 pml28 anl28 cdl28 ctl28), sll28⟩) (Cl28 : PySem.W.codeIn K cdl28 "Loop.__init__" = true) (Kl28 : PySem.W.keepIn K (.ref fl28) = true)
    (Al29 : PySem.W.findIn K (.ref CLp) "enter" = some (some (.ref fl29))) (Il29 : PySem.W.isFn K (.ref fl29) = true)
    (Ll29 : K.lookup fl29 = some ⟨ocl29, odl29, .func (PySem.W.fnOf "enter" "Loop.enter" (defArgs s_Loop_enter) (defBody s_Loop_enter) (defScope s_Loop_enter) .none kVl29 dcl29 pml29 anl29 cdl29 ctl29), sll29⟩) (Cl29 : PySem.W.codeIn K cdl29 "Loop.enter" = true) (Kl29 : PySem.W.keepIn K (.ref fl29) = true)
    (Al30 : PySem.W.findIn K (.ref CLp) "leave" = some (some (.ref fl30))) (Il30 : PySem.W.isFn K (.ref fl30) = true)
    (Ll30 : K.lookup fl30 = some ⟨ocl30, odl30, .func (PySem.W.fnOf "leave" "Loop.leave" (defArgs s_Loop_leave) (defBody s_Loop_leave) (defScope s_Loop_leave) .none kVl30 dcl30 pml30 anl30 cdl30 ctl30), sll30⟩) (Cl30 : PySem.W.codeIn K cdl30 "Loop.leave" = true) (Kl30 : PySem.W.keepIn K (.ref fl30) = true)
    (Al31 : PySem.W.findIn K (.ref CLp) "clients_in" = some (some (.ref fl31))) (Il31 : PySem.W.isFn K (.ref fl31) = true)
    (Ll31 : K.lookup fl31 = some ⟨ocl31, odl31, .func (PySem.W.fnOf "clients_in" "Loop.clients_in" (defArgs s_Loop_clients_in) (defBody s_Loop_clients_in) (defScope s_Loop_clients_in) .none kVl31 dcl31 pml31 anl31 cdl31 ctl31), sll31⟩) (Cl31 : PySem.W.codeIn K cdl31 "Loop.clients_in" = true) (Kl31 : PySem.W.keepIn K (.ref fl31) = true)
    (Al32 : PySem.W.findIn K (.ref CLp) "lone_from" = some (some (.ref fl32))) (Il32 : PySem.W.isFn K (.ref fl32) = true)
    (Ll32 : K.lookup fl32 = some ⟨ocl32, odl32, .func (PySem.W.fnOf "lone_from" "Loop.lone_from" (defArgs s_Loop_lone_from) (defBody s_Loop_lone_from) (defScope s_Loop_lone_from) .none kVl32 dcl32 pml32 anl32 cdl32 ctl32), sll32⟩) (Cl32 : PySem.W.codeIn K cdl32 "Loop.lone_from" = true) (Kl32 : PySem.W.keepIn K (.ref fl32) = true)
    (Al33 : PySem.W.findIn K (.ref CLp) "begins" = some (some (.ref fl33))) (Il33 : PySem.W.isFn K (.ref fl33) = true)
    (Ll33 : K.lookup fl33 = some ⟨ocl33, odl33, .func (PySem.W.fnOf "begins" "Loop.begins" (defArgs s_Loop_begins) (defBody s_Loop_begins) (defScope s_Loop_begins) .none kVl33 dcl33 pml33 anl33 cdl33 ctl33), sll33⟩) (Cl33 : PySem.W.codeIn K cdl33 "Loop.begins" = true) (Kl33 : PySem.W.keepIn K (.ref fl33) = true)
    (As34 : PySem.W.findIn K (.ref CG) "__init__" = some (some (.ref fs34))) (Is34 : PySem.W.isFn K (.ref fs34) = true)
    (Ls34 : K.lookup fs34 = some ⟨ocs34, ods34, .func (PySem.W.fnOf "__init__" "SingleGaps.__init__" (defArgs s_SingleGaps_ddinitdd) (defBody s_SingleGaps_ddinitdd) (defScope s_SingleGaps_ddinitdd) .none kVs34 dcs34 pms34 ans34 cds34 cts34), sls34⟩) (Cs34 : PySem.W.codeIn K cds34 "SingleGaps.__init__" = true) (Ks34 : PySem.W.keepIn K (.ref fs34) = true)
    (As35 : PySem.W.findIn K (.ref CG) "behind" = some (some (.ref fs35))) (Is35 : PySem.W.isFn K (.ref fs35) = true)
    (Ls35 : K.lookup fs35 = some ⟨ocs35, ods35, .func (PySem.W.fnOf "behind" "SingleGaps.behind" (defArgs s_SingleGaps_behind) (defBody s_SingleGaps_behind) (defScope s_SingleGaps_behind) .none kVs35 dcs35 pms35 ans35 cds35 cts35), sls35⟩) (Cs35 : PySem.W.codeIn K cds35 "SingleGaps.behind" = true) (Ks35 : PySem.W.keepIn K (.ref fs35) = true)
    (Aa36 : PySem.W.nsIn K mainGlobals "_law_made" = some (some (.ref fa36)))
    (La36 : K.lookup fa36 = some ⟨oca36, oda36, .func (PySem.W.fnOf "_law_made" "_law_made" (defArgs s_law_made) (defBody s_law_made) (defScope s_law_made) .none kVa36 dca36 pma36 ana36 cda36 cta36), sla36⟩) (Ca36 : PySem.W.codeIn K cda36 "_law_made" = true) (Ka36 : PySem.W.keepIn K (.ref fa36) = true)
    (As37 : PySem.W.findIn K (.ref CS) "starts" = some (some (.ref fs37))) (Is37 : PySem.W.isFn K (.ref fs37) = true)
    (Ls37 : K.lookup fs37 = some ⟨ocs37, ods37, .func (PySem.W.fnOf "starts" "Scene.starts" (defArgs s_Scene_starts) (defBody s_Scene_starts) (defScope s_Scene_starts) .none kVs37 dcs37 pms37 ans37 cds37 cts37), sls37⟩) (Cs37 : PySem.W.codeIn K cds37 "Scene.starts" = true) (Ks37 : PySem.W.keepIn K (.ref fs37) = true)
    (As38 : PySem.W.findIn K (.ref CS) "outages" = some (some (.ref fs38))) (Is38 : PySem.W.isFn K (.ref fs38) = true)
    (Ls38 : K.lookup fs38 = some ⟨ocs38, ods38, .func (PySem.W.fnOf "outages" "Scene.outages" (defArgs s_Scene_outages) (defBody s_Scene_outages) (defScope s_Scene_outages) .none kVs38 dcs38 pms38 ans38 cds38 cts38), sls38⟩) (Cs38 : PySem.W.codeIn K cds38 "Scene.outages" = true) (Ks38 : PySem.W.keepIn K (.ref fs38) = true)
    (As39 : PySem.W.findIn K (.ref CS) "length" = some (some (.ref fs39))) (Is39 : PySem.W.isFn K (.ref fs39) = true)
    (Ls39 : K.lookup fs39 = some ⟨ocs39, ods39, .func (PySem.W.fnOf "length" "Scene.length" (defArgs s_Scene_length) (defBody s_Scene_length) (defScope s_Scene_length) .none kVs39 dcs39 pms39 ans39 cds39 cts39), sls39⟩) (Cs39 : PySem.W.codeIn K cds39 "Scene.length" = true) (Ks39 : PySem.W.keepIn K (.ref fs39) = true)
    (As40 : PySem.W.findIn K (.ref CS) "rule" = some (some (.ref fs40))) (Is40 : PySem.W.isFn K (.ref fs40) = true)
    (Ls40 : K.lookup fs40 = some ⟨ocs40, ods40, .func (PySem.W.fnOf "rule" "Scene.rule" (defArgs s_Scene_rule) (defBody s_Scene_rule) (defScope s_Scene_rule) .none kVs40 dcs40 pms40 ans40 cds40 cts40), sls40⟩) (Cs40 : PySem.W.codeIn K cds40 "Scene.rule" = true) (Ks40 : PySem.W.keepIn K (.ref fs40) = true)
    (Ac41 : PySem.W.findIn K (.ref CC) "__init__" = some (some (.ref fc41))) (Ic41 : PySem.W.isFn K (.ref fc41) = true)
    (Lc41 : K.lookup fc41 = some ⟨occ41, odc41, .func (PySem.W.fnOf "__init__" "Course.__init__" (defArgs s_Course_ddinitdd) (defBody s_Course_ddinitdd) (defScope s_Course_ddinitdd) .none kVc41 dcc41 pmc41 anc41 cdc41 ctc41), slc41⟩) (Cc41 : PySem.W.codeIn K cdc41 "Course.__init__" = true) (Kc41 : PySem.W.keepIn K (.ref fc41) = true)
    (Ac42 : PySem.W.findIn K (.ref CC) "_following" = some (some (.ref fc42))) (Ic42 : PySem.W.isFn K (.ref fc42) = true)
    (Lc42 : K.lookup fc42 = some ⟨occ42, odc42, .func (PySem.W.fnOf "_following" "Course._following" (defArgs s_Course_following) (defBody s_Course_following) (defScope s_Course_following) .none kVc42 dcc42 pmc42 anc42 cdc42 ctc42), slc42⟩) (Cc42 : PySem.W.codeIn K cdc42 "Course._following" = true) (Kc42 : PySem.W.keepIn K (.ref fc42) = true)
    (Aa43 : PySem.W.nsIn K mainGlobals "check_slot" = some (some (.ref fa43)))
    (La43 : K.lookup fa43 = some ⟨oca43, oda43, .func (PySem.W.fnOf "check_slot" "check_slot" (defArgs s_check_slot) (defBody s_check_slot) (defScope s_check_slot) .none kVa43 dca43 pma43 ana43 cda43 cta43), sla43⟩) (Ca43 : PySem.W.codeIn K cda43 "check_slot" = true) (Ka43 : PySem.W.keepIn K (.ref fa43) = true)
    (As44 : PySem.W.findIn K (.ref CS) "outage_at" = some (some (.ref fs44))) (Is44 : PySem.W.isFn K (.ref fs44) = true)
    (Ls44 : K.lookup fs44 = some ⟨ocs44, ods44, .func (PySem.W.fnOf "outage_at" "Scene.outage_at" (defArgs s_Scene_outage_at) (defBody s_Scene_outage_at) (defScope s_Scene_outage_at) .none kVs44 dcs44 pms44 ans44 cds44 cts44), sls44⟩) (Cs44 : PySem.W.codeIn K cds44 "Scene.outage_at" = true) (Ks44 : PySem.W.keepIn K (.ref fs44) = true)
    (Ac45 : PySem.W.findIn K (.ref CC) "_decide" = some (some (.ref fc45))) (Ic45 : PySem.W.isFn K (.ref fc45) = true)
    (Lc45 : K.lookup fc45 = some ⟨occ45, odc45, .func (PySem.W.fnOf "_decide" "Course._decide" (defArgs s_Course_decide) (defBody s_Course_decide) (defScope s_Course_decide) .none kVc45 dcc45 pmc45 anc45 cdc45 ctc45), slc45⟩) (Cc45 : PySem.W.codeIn K cdc45 "Course._decide" = true) (Kc45 : PySem.W.keepIn K (.ref fc45) = true)
    (Ac46 : PySem.W.findIn K (.ref CC) "_pass_slot" = some (some (.ref fc46))) (Ic46 : PySem.W.isFn K (.ref fc46) = true)
    (Lc46 : K.lookup fc46 = some ⟨occ46, odc46, .func (PySem.W.fnOf "_pass_slot" "Course._pass_slot" (defArgs s_Course_pass_slot) (defBody s_Course_pass_slot) (defScope s_Course_pass_slot) .none kVc46 dcc46 pmc46 anc46 cdc46 ctc46), slc46⟩) (Cc46 : PySem.W.codeIn K cdc46 "Course._pass_slot" = true) (Kc46 : PySem.W.keepIn K (.ref fc46) = true)
    (Ac47 : PySem.W.findIn K (.ref CC) "services" = some (some (.ref fc47))) (Ic47 : PySem.W.isFn K (.ref fc47) = true)
    (Lc47 : K.lookup fc47 = some ⟨occ47, odc47, .func (PySem.W.fnOf "services" "Course.services" (defArgs s_Course_services) (defBody s_Course_services) (defScope s_Course_services) .none kVc47 dcc47 pmc47 anc47 cdc47 ctc47), slc47⟩) (Cc47 : PySem.W.codeIn K cdc47 "Course.services" = true) (Kc47 : PySem.W.keepIn K (.ref fc47) = true)
    (Aa48 : PySem.W.nsIn K mainGlobals "find_services" = some (some (.ref fa48)))
    (La48 : K.lookup fa48 = some ⟨oca48, oda48, .func (PySem.W.fnOf "find_services" "find_services" (defArgs s_find_services) (defBody s_find_services) (defScope s_find_services) .none kVa48 dca48 pma48 ana48 cda48 cta48), sla48⟩) (Ca48 : PySem.W.codeIn K cda48 "find_services" = true) (Ka48 : PySem.W.keepIn K (.ref fa48) = true)
    (Aa49 : PySem.W.nsIn K mainGlobals "_first_at_least" = some (some (.ref fa49)))
    (La49 : K.lookup fa49 = some ⟨oca49, oda49, .func (PySem.W.fnOf "_first_at_least" "_first_at_least" (defArgs s_first_at_least) (defBody s_first_at_least) (defScope s_first_at_least) .none kVa49 dca49 pma49 ana49 cda49 cta49), sla49⟩) (Ca49 : PySem.W.codeIn K cda49 "_first_at_least" = true) (Ka49 : PySem.W.keepIn K (.ref fa49) = true)
    (Ar50 : PySem.W.findIn K (.ref C) "_surely_short" = some (some (.ref fr50))) (Ir50 : PySem.W.isFn K (.ref fr50) = true)
    (Lr50 : K.lookup fr50 = some ⟨ocr50, odr50, .func (PySem.W.fnOf "_surely_short" "Rule._surely_short" (defArgs s_Rule_surely_short) (defBody s_Rule_surely_short) (defScope s_Rule_surely_short) .none kVr50 dcr50 pmr50 anr50 cdr50 ctr50), slr50⟩) (Cr50 : PySem.W.codeIn K cdr50 "Rule._surely_short" = true) (Kr50 : PySem.W.keepIn K (.ref fr50) = true)
    (Ar51 : PySem.W.findIn K (.ref C) "_first_growing" = some (some (.ref fr51))) (Ir51 : PySem.W.isFn K (.ref fr51) = true)
    (Lr51 : K.lookup fr51 = some ⟨ocr51, odr51, .func (PySem.W.fnOf "_first_growing" "Rule._first_growing" (defArgs s_Rule_first_growing) (defBody s_Rule_first_growing) (defScope s_Rule_first_growing) .none kVr51 dcr51 pmr51 anr51 cdr51 ctr51), slr51⟩) (Cr51 : PySem.W.codeIn K cdr51 "Rule._first_growing" = true) (Kr51 : PySem.W.keepIn K (.ref fr51) = true)
    (Ar52 : PySem.W.findIn K (.ref C) "_first_repeated" = some (some (.ref fr52))) (Ir52 : PySem.W.isFn K (.ref fr52) = true)
    (Lr52 : K.lookup fr52 = some ⟨ocr52, odr52, .func (PySem.W.fnOf "_first_repeated" "Rule._first_repeated" (defArgs s_Rule_first_repeated) (defBody s_Rule_first_repeated) (defScope s_Rule_first_repeated) .none kVr52 dcr52 pmr52 anr52 cdr52 ctr52), slr52⟩) (Cr52 : PySem.W.codeIn K cdr52 "Rule._first_repeated" = true) (Kr52 : PySem.W.keepIn K (.ref fr52) = true)
    (Ar53 : PySem.W.findIn K (.ref C) "first_from" = some (some (.ref fr53))) (Ir53 : PySem.W.isFn K (.ref fr53) = true)
    (Lr53 : K.lookup fr53 = some ⟨ocr53, odr53, .func (PySem.W.fnOf "first_from" "Rule.first_from" (defArgs s_Rule_first_from) (defBody s_Rule_first_from) (defScope s_Rule_first_from) .none kVr53 dcr53 pmr53 anr53 cdr53 ctr53), slr53⟩) (Cr53 : PySem.W.codeIn K cdr53 "Rule.first_from" = true) (Kr53 : PySem.W.keepIn K (.ref fr53) = true)
    (Ar54 : PySem.W.findIn K (.ref C) "attempt_at" = some (some (.ref fr54))) (Ir54 : PySem.W.isFn K (.ref fr54) = true)
    (Lr54 : K.lookup fr54 = some ⟨ocr54, odr54, .func (PySem.W.fnOf "attempt_at" "Rule.attempt_at" (defArgs s_Rule_attempt_at) (defBody s_Rule_attempt_at) (defScope s_Rule_attempt_at) .none kVr54 dcr54 pmr54 anr54 cdr54 ctr54), slr54⟩) (Cr54 : PySem.W.codeIn K cdr54 "Rule.attempt_at" = true) (Kr54 : PySem.W.keepIn K (.ref fr54) = true)
    (Aa55 : PySem.W.nsIn K mainGlobals "check_client" = some (some (.ref fa55)))
    (La55 : K.lookup fa55 = some ⟨oca55, oda55, .func (PySem.W.fnOf "check_client" "check_client" (defArgs s_check_client) (defBody s_check_client) (defScope s_check_client) .none kVa55 dca55 pma55 ana55 cda55 cta55), sla55⟩) (Ca55 : PySem.W.codeIn K cda55 "check_client" = true) (Ka55 : PySem.W.keepIn K (.ref fa55) = true)
    (As56 : PySem.W.findIn K (.ref CS) "attempt_in" = some (some (.ref fs56))) (Is56 : PySem.W.isFn K (.ref fs56) = true)
    (Ls56 : K.lookup fs56 = some ⟨ocs56, ods56, .func (PySem.W.fnOf "attempt_in" "Scene.attempt_in" (defArgs s_Scene_attempt_in) (defBody s_Scene_attempt_in) (defScope s_Scene_attempt_in) .none kVs56 dcs56 pms56 ans56 cds56 cts56), sls56⟩) (Cs56 : PySem.W.codeIn K cds56 "Scene.attempt_in" = true) (Ks56 : PySem.W.keepIn K (.ref fs56) = true)
    (Ar57 : PySem.W.findIn K (.ref CR) "__init__" = some (some (.ref fr57))) (Ir57 : PySem.W.isFn K (.ref fr57) = true)
    (Lr57 : K.lookup fr57 = some ⟨ocr57, odr57, .func (PySem.W.fnOf "__init__" "Run.__init__" (defArgs s_Run_ddinitdd) (defBody s_Run_ddinitdd) (defScope s_Run_ddinitdd) .none kVr57 dcr57 pmr57 anr57 cdr57 ctr57), slr57⟩) (Cr57 : PySem.W.codeIn K cdr57 "Run.__init__" = true) (Kr57 : PySem.W.keepIn K (.ref fr57) = true)
    (Ar58 : PySem.W.findIn K (.ref CR) "outcome" = some (some (.ref fr58))) (Ir58 : PySem.W.isFn K (.ref fr58) = true)
    (Lr58 : K.lookup fr58 = some ⟨ocr58, odr58, .func (PySem.W.fnOf "outcome" "Run.outcome" (defArgs s_Run_outcome) (defBody s_Run_outcome) (defScope s_Run_outcome) .none kVr58 dcr58 pmr58 anr58 cdr58 ctr58), slr58⟩) (Cr58 : PySem.W.codeIn K cdr58 "Run.outcome" = true) (Kr58 : PySem.W.keepIn K (.ref fr58) = true)
    (Ar59 : PySem.W.findIn K (.ref CR) "outcomes" = some (some (.ref fr59))) (Ir59 : PySem.W.isFn K (.ref fr59) = true)
    (Lr59 : K.lookup fr59 = some ⟨ocr59, odr59, .func (PySem.W.fnOf "outcomes" "Run.outcomes" (defArgs s_Run_outcomes) (defBody s_Run_outcomes) (defScope s_Run_outcomes) .none kVr59 dcr59 pmr59 anr59 cdr59 ctr59), slr59⟩) (Cr59 : PySem.W.codeIn K cdr59 "Run.outcomes" = true) (Kr59 : PySem.W.keepIn K (.ref fr59) = true)
    (Ar60 : PySem.W.findIn K (.ref CR) "active" = some (some (.ref fr60))) (Ir60 : PySem.W.isFn K (.ref fr60) = true)
    (Lr60 : K.lookup fr60 = some ⟨ocr60, odr60, .func (PySem.W.fnOf "active" "Run.active" (defArgs s_Run_active) (defBody s_Run_active) (defScope s_Run_active) .none kVr60 dcr60 pmr60 anr60 cdr60 ctr60), slr60⟩) (Cr60 : PySem.W.codeIn K cdr60 "Run.active" = true) (Kr60 : PySem.W.keepIn K (.ref fr60) = true)
    (Ar61 : PySem.W.findIn K (.ref CR) "attempting" = some (some (.ref fr61))) (Ir61 : PySem.W.isFn K (.ref fr61) = true)
    (Lr61 : K.lookup fr61 = some ⟨ocr61, odr61, .func (PySem.W.fnOf "attempting" "Run.attempting" (defArgs s_Run_attempting) (defBody s_Run_attempting) (defScope s_Run_attempting) .none kVr61 dcr61 pmr61 anr61 cdr61 ctr61), slr61⟩) (Cr61 : PySem.W.codeIn K cdr61 "Run.attempting" = true) (Kr61 : PySem.W.keepIn K (.ref fr61) = true)
    (Ar62 : PySem.W.findIn K (.ref CR) "_occupant" = some (some (.ref fr62))) (Ir62 : PySem.W.isFn K (.ref fr62) = true)
    (Lr62 : K.lookup fr62 = some ⟨ocr62, odr62, .func (PySem.W.fnOf "_occupant" "Run._occupant" (defArgs s_Run_occupant) (defBody s_Run_occupant) (defScope s_Run_occupant) .none kVr62 dcr62 pmr62 anr62 cdr62 ctr62), slr62⟩) (Cr62 : PySem.W.codeIn K cdr62 "Run._occupant" = true) (Kr62 : PySem.W.keepIn K (.ref fr62) = true)
    (Ar63 : PySem.W.findIn K (.ref CR) "event" = some (some (.ref fr63))) (Ir63 : PySem.W.isFn K (.ref fr63) = true)
    (Lr63 : K.lookup fr63 = some ⟨ocr63, odr63, .func (PySem.W.fnOf "event" "Run.event" (defArgs s_Run_event) (defBody s_Run_event) (defScope s_Run_event) .none kVr63 dcr63 pmr63 anr63 cdr63 ctr63), slr63⟩) (Cr63 : PySem.W.codeIn K cdr63 "Run.event" = true) (Kr63 : PySem.W.keepIn K (.ref fr63) = true)
    (Aa64 : PySem.W.nsIn K mainGlobals "_law_residues" = some (some (.ref fa64)))
    (La64 : K.lookup fa64 = some ⟨oca64, oda64, .func (PySem.W.fnOf "_law_residues" "_law_residues" (defArgs s_law_residues) (defBody s_law_residues) (defScope s_law_residues) .none kVa64 dca64 pma64 ana64 cda64 cta64), sla64⟩) (Ca64 : PySem.W.codeIn K cda64 "_law_residues" = true) (Ka64 : PySem.W.keepIn K (.ref fa64) = true)
    (Aa65 : PySem.W.nsIn K mainGlobals "_law_has" = some (some (.ref fa65)))
    (La65 : K.lookup fa65 = some ⟨oca65, oda65, .func (PySem.W.fnOf "_law_has" "_law_has" (defArgs s_law_has) (defBody s_law_has) (defScope s_law_has) .none kVa65 dca65 pma65 ana65 cda65 cta65), sla65⟩) (Ca65 : PySem.W.codeIn K cda65 "_law_has" = true) (Ka65 : PySem.W.keepIn K (.ref fa65) = true)
    (Aa66 : PySem.W.nsIn K mainGlobals "_law_long" = some (some (.ref fa66)))
    (La66 : K.lookup fa66 = some ⟨oca66, oda66, .func (PySem.W.fnOf "_law_long" "_law_long" (defArgs s_law_long) (defBody s_law_long) (defScope s_law_long) .none kVa66 dca66 pma66 ana66 cda66 cta66), sla66⟩) (Ca66 : PySem.W.codeIn K cda66 "_law_long" = true) (Ka66 : PySem.W.keepIn K (.ref fa66) = true)
    (Aa67 : PySem.W.nsIn K mainGlobals "_law_right" = some (some (.ref fa67)))
    (La67 : K.lookup fa67 = some ⟨oca67, oda67, .func (PySem.W.fnOf "_law_right" "_law_right" (defArgs s_law_right) (defBody s_law_right) (defScope s_law_right) .none kVa67 dca67 pma67 ana67 cda67 cta67), sla67⟩) (Ca67 : PySem.W.codeIn K cda67 "_law_right" = true) (Ka67 : PySem.W.keepIn K (.ref fa67) = true)
    (aC : PySem.W.nsIn K mainGlobals "Rule" = some (some (.ref C)))
    (pg : PySem.W.plainGet K C Str.empty = true)
    (hd : PySem.W.hasDictIn K C = true)
    (po : PySem.W.plainOver K C = true)
    (sa : PySem.W.findIn K (.ref C) "__setattr__" = some (some (.builtin "object.__setattr__")))
    (mk : PySem.W.makesIn K C = true)
    (kc : PySem.W.keepIn K (.ref C) = true)
    (n0 : PySem.W.findIn K (.ref C) "_gaps" = some none)
    (n1 : PySem.W.findIn K (.ref C) "_tail" = some none)
    (n2 : PySem.W.findIn K (.ref C) "_offsets" = some none)
    (iha : PySem.W.findIn K (.ref C) "__class__" = some (some (.builtin "object.__class__")))
    (ihm : PySem.W.mroIn K C (.type "object") = some true)
    (aC_s : PySem.W.nsIn K mainGlobals "Scene" = some (some (.ref CS)))
    (pg_s : PySem.W.plainGet K CS Str.empty = true)
    (hd_s : PySem.W.hasDictIn K CS = true)
    (po_s : PySem.W.plainOver K CS = true)
    (sa_s : PySem.W.findIn K (.ref CS) "__setattr__" = some (some (.builtin "object.__setattr__")))
    (mk_s : PySem.W.makesIn K CS = true)
    (kc_s : PySem.W.keepIn K (.ref CS) = true)
    (n0_s : PySem.W.findIn K (.ref CS) "_rule" = some none)
    (n1_s : PySem.W.findIn K (.ref CS) "_starts" = some none)
    (n2_s : PySem.W.findIn K (.ref CS) "_outages" = some none)
    (n3_s : PySem.W.findIn K (.ref CS) "_length" = some none)
    (iha_s : PySem.W.findIn K (.ref CS) "__class__" = some (some (.builtin "object.__class__")))
    (ihm_s : PySem.W.mroIn K CS (.type "object") = some true)
    (aC_r : PySem.W.nsIn K mainGlobals "Run" = some (some (.ref CR)))
    (pg_r : PySem.W.plainGet K CR Str.empty = true)
    (hd_r : PySem.W.hasDictIn K CR = true)
    (po_r : PySem.W.plainOver K CR = true)
    (sa_r : PySem.W.findIn K (.ref CR) "__setattr__" = some (some (.builtin "object.__setattr__")))
    (mk_r : PySem.W.makesIn K CR = true)
    (kc_r : PySem.W.keepIn K (.ref CR) = true)
    (n0_r : PySem.W.findIn K (.ref CR) "_scene" = some none)
    (n1_r : PySem.W.findIn K (.ref CR) "_order" = some none)
    (n2_r : PySem.W.findIn K (.ref CR) "_served" = some none)
    (aC_p : PySem.W.nsIn K mainGlobals "Loop" = some (some (.ref CLp)))
    (pg_p : PySem.W.plainGet K CLp Str.empty = true)
    (hd_p : PySem.W.hasDictIn K CLp = true)
    (po_p : PySem.W.plainOver K CLp = true)
    (sa_p : PySem.W.findIn K (.ref CLp) "__setattr__" = some (some (.builtin "object.__setattr__")))
    (mk_p : PySem.W.makesIn K CLp = true)
    (kc_p : PySem.W.keepIn K (.ref CLp) = true)
    (n0_p : PySem.W.findIn K (.ref CLp) "_period" = some none)
    (n1_p : PySem.W.findIn K (.ref CLp) "_first" = some none)
    (n2_p : PySem.W.findIn K (.ref CLp) "_offsets" = some none)
    (n3_p : PySem.W.findIn K (.ref CLp) "_clients" = some none)
    (n4_p : PySem.W.findIn K (.ref CLp) "_lone" = some none)
    (n5_p : PySem.W.findIn K (.ref CLp) "_changed" = some none)
    (aC_c : PySem.W.nsIn K mainGlobals "Course" = some (some (.ref CC)))
    (pg_c : PySem.W.plainGet K CC Str.empty = true)
    (hd_c : PySem.W.hasDictIn K CC = true)
    (po_c : PySem.W.plainOver K CC = true)
    (sa_c : PySem.W.findIn K (.ref CC) "__setattr__" = some (some (.builtin "object.__setattr__")))
    (mk_c : PySem.W.makesIn K CC = true)
    (kc_c : PySem.W.keepIn K (.ref CC) = true)
    (n0_c : PySem.W.findIn K (.ref CC) "_scene" = some none)
    (n1_c : PySem.W.findIn K (.ref CC) "_starts" = some none)
    (n2_c : PySem.W.findIn K (.ref CC) "_gaps" = some none)
    (n3_c : PySem.W.findIn K (.ref CC) "_loop" = some none)
    (n4_c : PySem.W.findIn K (.ref CC) "_queue" = some none)
    (n5_c : PySem.W.findIn K (.ref CC) "_free" = some none)
    (n6_c : PySem.W.findIn K (.ref CC) "_waiting" = some none)
    (n7_c : PySem.W.findIn K (.ref CC) "_services" = some none)
    (aC_g : PySem.W.nsIn K mainGlobals "SingleGaps" = some (some (.ref CG)))
    (pg_g : PySem.W.plainGet K CG Str.empty = true)
    (hd_g : PySem.W.hasDictIn K CG = true)
    (po_g : PySem.W.plainOver K CG = true)
    (sa_g : PySem.W.findIn K (.ref CG) "__setattr__" = some (some (.builtin "object.__setattr__")))
    (mk_g : PySem.W.makesIn K CG = true)
    (kc_g : PySem.W.keepIn K (.ref CG) = true)
    (n0_g : PySem.W.findIn K (.ref CG) "_gaps" = some none)
    (n1_g : PySem.W.findIn K (.ref CG) "_factor" = some none)
    (ihn : PySem.W.specialIn K (.builtin "object.__class__") "__get__" = some (some (.builtin "getset_descriptor.__get__"))) (iht : PySem.W.takesIn K (.builtin "object.__class__") = some true)
    (z_len : PySem.W.nsIn K mainGlobals "len" = some none)
    (z_isinstance : PySem.W.nsIn K mainGlobals "isinstance" = some none)
    (z_int : PySem.W.nsIn K mainGlobals "int" = some none)
    (z_bool : PySem.W.nsIn K mainGlobals "bool" = some none)
    (z_list : PySem.W.nsIn K mainGlobals "list" = some none)
    (z_tuple : PySem.W.nsIn K mainGlobals "tuple" = some none)
    (z_str : PySem.W.nsIn K mainGlobals "str" = some none)
    (z_all : PySem.W.nsIn K mainGlobals "all" = some none)
    (z_range : PySem.W.nsIn K mainGlobals "range" = some none)
    (z_divmod : PySem.W.nsIn K mainGlobals "divmod" = some none)
    (z_sum : PySem.W.nsIn K mainGlobals "sum" = some none)
    (z_max : PySem.W.nsIn K mainGlobals "max" = some none)
    (z_min : PySem.W.nsIn K mainGlobals "min" = some none)
    (z_sorted : PySem.W.nsIn K mainGlobals "sorted" = some none)
    (z_set : PySem.W.nsIn K mainGlobals "set" = some none)
    (z_any : PySem.W.nsIn K mainGlobals "any" = some none)
    (z_enumerate : PySem.W.nsIn K mainGlobals "enumerate" = some none)
    (zpush : PySem.W.nsIn K mainGlobals "heappush" = some (some (.builtin "_heapq.heappush")))
    (zpop : PySem.W.nsIn K mainGlobals "heappop" = some (some (.builtin "_heapq.heappop")))
    (c_tM : PySem.W.nsIn K mainGlobals "_MOST_GAPS" = some (some (.int 20 tM)))
    (c_tF : PySem.W.nsIn K mainGlobals "_GREATEST_FACTOR" = some (some (.int 1000 tF)))
    (c_tL : PySem.W.nsIn K mainGlobals "LAST_GROWING" = some (some (.int 1000 tL)))
    (c_tC : PySem.W.nsIn K mainGlobals "MOST_CLIENTS" = some (some (.int 40 tC)))
    (c_tO : PySem.W.nsIn K mainGlobals "_MOST_OUTAGES" = some (some (.int 10 tO))) :
    ∃ fd : FuncData, (∀ (s : Shared) (v : Value), BindsTo s fd ⟨[v], []⟩ [("_law_script", v)]) ∧ ∀ base : Heap, K.In base → base.Ns mainGlobals mg → FnOk l.prog w K mg base CX0 12 fa fd ["_law_script"] (spLaw K) := by
  have e := hfa.symm.trans (PySem.W.mg_of X G Aa0)
  cases e
  have T : Txt K mg C := ⟨⟨pg, hd, po, sa⟩, n0, n1, n2, PySem.W.mg_of X G aC, PySem.W.mg_none_of X G z_len, PySem.W.mg_none_of X G z_isinstance, PySem.W.mg_none_of X G z_int, PySem.W.mg_none_of X G z_bool, PySem.W.mg_none_of X G z_list, PySem.W.mg_none_of X G z_tuple, PySem.W.mg_none_of X G z_str, PySem.W.mg_none_of X G z_all, PySem.W.mg_none_of X G z_range, PySem.W.mg_none_of X G z_divmod, PySem.W.mg_none_of X G z_sum, PySem.W.mg_none_of X G z_max, PySem.W.mg_none_of X G z_min, PySem.W.mg_none_of X G z_sorted, PySem.W.mg_none_of X G z_set, PySem.W.mg_none_of X G z_any, PySem.W.mg_none_of X G z_enumerate, ⟨tM, PySem.W.mg_of X G c_tM⟩, hlong, ⟨tF, PySem.W.mg_of X G c_tF⟩, ⟨tL, PySem.W.mg_of X G c_tL⟩⟩
  have TS : TxtS K mg CS := ⟨⟨pg_s, hd_s, po_s, sa_s⟩, n0_s, n1_s, n2_s, n3_s, PySem.W.mg_of X G aC_s, PySem.W.mg_none_of X G z_enumerate, ⟨tC, PySem.W.mg_of X G c_tC⟩, ⟨tO, PySem.W.mg_of X G c_tO⟩⟩
  have M : Mk K C fr6 := ⟨mk, Ar6, Ir6, kc⟩
  have IC : C8.InsC K C := ⟨⟨pg, hd, po, sa⟩, iha, ihn, iht, ihm, if_pos (beq_self_eq_true _)⟩
  have M_s : Mk K CS fs27 := ⟨mk_s, As27, Is27, kc_s⟩
  have IC_s : C8.InsC K CS := ⟨⟨pg_s, hd_s, po_s, sa_s⟩, iha_s, ihn, iht, ihm_s, if_pos (beq_self_eq_true _)⟩
  have M_r : Mk K CR fr57 := ⟨mk_r, Ar57, Ir57, kc_r⟩
  have M_p : Mk K CLp fl28 := ⟨mk_p, Al28, Il28, kc_p⟩
  have M_c : Mk K CC fc41 := ⟨mk_c, Ac41, Ic41, kc_c⟩
  have M_g : Mk K CG fs34 := ⟨mk_g, As34, Is34, kc_g⟩
  have TP := (⟨⟨pg_p, hd_p, po_p, sa_p⟩, n0_p, n1_p, n2_p, n3_p, n4_p, n5_p, PySem.W.mg_of X G aC_p⟩ : TxtP K mg CLp)
  have TR := (⟨⟨pg_r, hd_r, po_r, sa_r⟩, n0_r, n1_r, n2_r, PySem.W.mg_of X G aC_r⟩ : TxtR K mg CR)
  have TC := (⟨⟨pg_c, hd_c, po_c, sa_c⟩, n0_c, n1_c, n2_c, n3_c, n4_c, n5_c, n6_c, n7_c, PySem.W.mg_of X G aC_c, PySem.W.mg_of X G zpush, PySem.W.mg_of X G zpop⟩ : TxtC K mg CC)
  have TG := (⟨⟨pg_g, hd_g, po_g, sa_g⟩, n0_g, n1_g, PySem.W.mg_of X G aC_g⟩ : TxtG K mg CG)
  have Fa0 := fun_mk (st := s_law) La0 Ca0 Ka0
  have Fa1 := fun_mk (st := s_is_integer) La1 Ca1 Ka1
  have Fa2 := fun_mk (st := s_are_gaps) La2 Ca2 Ka2
  have Fa3 := fun_mk (st := s_is_tail) La3 Ca3 Ka3
  have Fa4 := fun_mk (st := s_sums) La4 Ca4 Ka4
  have Fa5 := fun_mk (st := s_power) La5 Ca5 Ka5
  have Fr6 := fun_mk (st := s_Rule_ddinitdd) Lr6 Cr6 Kr6
  have Fr7 := fun_mk (st := s_Rule_attempts) Lr7 Cr7 Kr7
  have Fr8 := fun_mk (st := s_Rule_first_repeating) Lr8 Cr8 Kr8
  have Fr9 := fun_mk (st := s_Rule_period) Lr9 Cr9 Kr9
  have Fr10 := fun_mk (st := s_Rule_gaps) Lr10 Cr10 Kr10
  have Fr11 := fun_mk (st := s_Rule_tail) Lr11 Cr11 Kr11
  have Fr13 := fun_mk (st := s_Rule_offset_of) Lr13 Cr13 Kr13
  have Fa16 := fun_mk (st := s_law_well) La16 Ca16 Ka16
  have Fa17 := fun_mk (st := s_law_mixed) La17 Ca17 Ka17
  have Fa18 := fun_mk (st := s_law_draw) La18 Ca18 Ka18
  have Fa19 := fun_mk (st := s_law_one) La19 Ca19 Ka19
  have Fa20 := fun_mk (st := s_law_windows) La20 Ca20 Ka20
  have Fa21 := fun_mk (st := s_listed_offsets) La21 Ca21 Ka21
  have Fa22 := fun_mk (st := s_repeating_offsets) La22 Ca22 Ka22
  have Fa23 := fun_mk (st := s_are_two_integers) La23 Ca23 Ka23
  have Fa24 := fun_mk (st := s_are_slots) La24 Ca24 Ka24
  have Fa25 := fun_mk (st := s_check_starts) La25 Ca25 Ka25
  have Fa26 := fun_mk (st := s_check_outages) La26 Ca26 Ka26
  have Fs27 := fun_mk (st := s_Scene_ddinitdd) Ls27 Cs27 Ks27
  have Fl28 := fun_mk (st := s_Loop_ddinitdd) Ll28 Cl28 Kl28
  have Fl29 := fun_mk (st := s_Loop_enter) Ll29 Cl29 Kl29
  have Fl30 := fun_mk (st := s_Loop_leave) Ll30 Cl30 Kl30
  have Fl31 := fun_mk (st := s_Loop_clients_in) Ll31 Cl31 Kl31
  have Fl32 := fun_mk (st := s_Loop_lone_from) Ll32 Cl32 Kl32
  have Fl33 := fun_mk (st := s_Loop_begins) Ll33 Cl33 Kl33
  have Fs34 := fun_mk (st := s_SingleGaps_ddinitdd) Ls34 Cs34 Ks34
  have Fs35 := fun_mk (st := s_SingleGaps_behind) Ls35 Cs35 Ks35
  have Fa36 := fun_mk (st := s_law_made) La36 Ca36 Ka36
  have Fs37 := fun_mk (st := s_Scene_starts) Ls37 Cs37 Ks37
  have Fs38 := fun_mk (st := s_Scene_outages) Ls38 Cs38 Ks38
  have Fs39 := fun_mk (st := s_Scene_length) Ls39 Cs39 Ks39
  have Fs40 := fun_mk (st := s_Scene_rule) Ls40 Cs40 Ks40
  have Fc41 := fun_mk (st := s_Course_ddinitdd) Lc41 Cc41 Kc41
  have Fc42 := fun_mk (st := s_Course_following) Lc42 Cc42 Kc42
  have Fa43 := fun_mk (st := s_check_slot) La43 Ca43 Ka43
  have Fs44 := fun_mk (st := s_Scene_outage_at) Ls44 Cs44 Ks44
  have Fc45 := fun_mk (st := s_Course_decide) Lc45 Cc45 Kc45
  have Fc46 := fun_mk (st := s_Course_pass_slot) Lc46 Cc46 Kc46
  have Fc47 := fun_mk (st := s_Course_services) Lc47 Cc47 Kc47
  have Fa48 := fun_mk (st := s_find_services) La48 Ca48 Ka48
  have Fa49 := fun_mk (st := s_first_at_least) La49 Ca49 Ka49
  have Fr50 := fun_mk (st := s_Rule_surely_short) Lr50 Cr50 Kr50
  have Fr51 := fun_mk (st := s_Rule_first_growing) Lr51 Cr51 Kr51
  have Fr52 := fun_mk (st := s_Rule_first_repeated) Lr52 Cr52 Kr52
  have Fr53 := fun_mk (st := s_Rule_first_from) Lr53 Cr53 Kr53
  have Fr54 := fun_mk (st := s_Rule_attempt_at) Lr54 Cr54 Kr54
  have Fa55 := fun_mk (st := s_check_client) La55 Ca55 Ka55
  have Fs56 := fun_mk (st := s_Scene_attempt_in) Ls56 Cs56 Ks56
  have Fr57 := fun_mk (st := s_Run_ddinitdd) Lr57 Cr57 Kr57
  have Fr58 := fun_mk (st := s_Run_outcome) Lr58 Cr58 Kr58
  have Fr59 := fun_mk (st := s_Run_outcomes) Lr59 Cr59 Kr59
  have Fr60 := fun_mk (st := s_Run_active) Lr60 Cr60 Kr60
  have Fr61 := fun_mk (st := s_Run_attempting) Lr61 Cr61 Kr61
  have Fr62 := fun_mk (st := s_Run_occupant) Lr62 Cr62 Kr62
  have Fr63 := fun_mk (st := s_Run_event) Lr63 Cr63 Kr63
  have Fa64 := fun_mk (st := s_law_residues) La64 Ca64 Ka64
  have Fa65 := fun_mk (st := s_law_has) La65 Ca65 Ka65
  have Fa66 := fun_mk (st := s_law_long) La66 Ca66 Ka66
  have Fa67 := fun_mk (st := s_law_right) La67 Ca67 Ka67
  have ba1 := Fa1.binds (ps := ["value"]) fun _ _ _ _ _ _ us hl => match us, hl with | [_], _ => rfl
  have ga1 := PySem.W.mg_of X G Aa1
  have ba2 := Fa2.binds (ps := ["value", "most"]) fun _ _ _ _ _ _ us hl => match us, hl with | [_, _], _ => rfl
  have ga2 := PySem.W.mg_of X G Aa2
  have ba3 := Fa3.binds (ps := ["value", "many"]) fun _ _ _ _ _ _ us hl => match us, hl with | [_, _], _ => rfl
  have ga3 := PySem.W.mg_of X G Aa3
  have ba4 := Fa4.binds (ps := ["gaps"]) fun _ _ _ _ _ _ us hl => match us, hl with | [_], _ => rfl
  have ga4 := PySem.W.mg_of X G Aa4
  have ba5 := Fa5.binds (ps := ["base", "exponent"]) fun _ _ _ _ _ _ us hl => match us, hl with | [_, _], _ => rfl
  have ga5 := PySem.W.mg_of X G Aa5
  have br6 := Fr6.binds (ps := ["self", "gaps", "tail"]) fun _ _ _ _ _ _ us hl => match us, hl with | [_, _, _], _ => rfl
  have er6 : Meth K C "__init__" fr6 := ⟨Ar6, Ir6, Kr6⟩
  have br7 := Fr7.binds (ps := ["self"]) fun _ _ _ _ _ _ us hl => match us, hl with | [_], _ => rfl
  have er7 : Meth K C "attempts" fr7 := ⟨Ar7, Ir7, Kr7⟩
  have br8 := Fr8.binds (ps := ["self"]) fun _ _ _ _ _ _ us hl => match us, hl with | [_], _ => rfl
  have er8 : Meth K C "first_repeating" fr8 := ⟨Ar8, Ir8, Kr8⟩
  have br9 := Fr9.binds (ps := ["self"]) fun _ _ _ _ _ _ us hl => match us, hl with | [_], _ => rfl
  have er9 : Meth K C "period" fr9 := ⟨Ar9, Ir9, Kr9⟩
  have br10 := Fr10.binds (ps := ["self"]) fun _ _ _ _ _ _ us hl => match us, hl with | [_], _ => rfl
  have er10 : Meth K C "gaps" fr10 := ⟨Ar10, Ir10, Kr10⟩
  have br11 := Fr11.binds (ps := ["self"]) fun _ _ _ _ _ _ us hl => match us, hl with | [_], _ => rfl
  have er11 : Meth K C "tail" fr11 := ⟨Ar11, Ir11, Kr11⟩
  have br13 := Fr13.binds (ps := ["self", "attempt"]) fun _ _ _ _ _ _ us hl => match us, hl with | [_, _], _ => rfl
  have er13 : Meth K C "_offset_of" fr13 := ⟨Ar13, Ir13, Kr13⟩
  have ba16 := Fa16.binds (ps := ["_law_cell"]) fun _ _ _ _ _ _ us hl => match us, hl with | [_], _ => rfl
  have ga16 := PySem.W.mg_of X G Aa16
  have ba17 := Fa17.binds (ps := ["_law_cell", "_law_k"]) fun _ _ _ _ _ _ us hl => match us, hl with | [_, _], _ => rfl
  have ga17 := PySem.W.mg_of X G Aa17
  have ba18 := Fa18.binds (ps := ["_law_well_here", "_law_many"]) fun _ _ _ _ _ _ us hl => match us, hl with | [_, _], _ => rfl
  have ga18 := PySem.W.mg_of X G Aa18
  have ba19 := Fa19.binds (ps := ["_law_well_here", "_law_some"]) fun _ _ _ _ _ _ us hl => match us, hl with | [_, _], _ => rfl
  have ga19 := PySem.W.mg_of X G Aa19
  have ba20 := Fa20.binds (ps := ["_law_well_here"]) fun _ _ _ _ _ _ us hl => match us, hl with | [_], _ => rfl
  have ga20 := PySem.W.mg_of X G Aa20
  have ba21 := Fa21.binds (ps := ["rule"]) fun _ _ _ _ _ _ us hl => match us, hl with | [_], _ => rfl
  have ga21 := PySem.W.mg_of X G Aa21
  have ba22 := Fa22.binds (ps := ["rule"]) fun _ _ _ _ _ _ us hl => match us, hl with | [_], _ => rfl
  have ga22 := PySem.W.mg_of X G Aa22
  have ba23 := Fa23.binds (ps := ["value"]) fun _ _ _ _ _ _ us hl => match us, hl with | [_], _ => rfl
  have ga23 := PySem.W.mg_of X G Aa23
  have ba24 := Fa24.binds (ps := ["value"]) fun _ _ _ _ _ _ us hl => match us, hl with | [_], _ => rfl
  have ga24 := PySem.W.mg_of X G Aa24
  have ba25 := Fa25.binds (ps := ["value", "fewest"]) fun _ _ _ _ _ _ us hl => match us, hl with | [_, _], _ => rfl
  have ga25 := PySem.W.mg_of X G Aa25
  have ba26 := Fa26.binds (ps := ["value"]) fun _ _ _ _ _ _ us hl => match us, hl with | [_], _ => rfl
  have ga26 := PySem.W.mg_of X G Aa26
  have es27 : Meth K CS "__init__" fs27 := ⟨As27, Is27, Ks27⟩
  have bl28 := Fl28.binds (ps := ["self", "rule"]) fun _ _ _ _ _ _ us hl => match us, hl with | [_, _], _ => rfl
  have el28 : Meth K CLp "__init__" fl28 := ⟨Al28, Il28, Kl28⟩
  have bl29 := Fl29.binds (ps := ["self", "client", "start"]) fun _ _ _ _ _ _ us hl => match us, hl with | [_, _, _], _ => rfl
  have el29 : Meth K CLp "enter" fl29 := ⟨Al29, Il29, Kl29⟩
  have bl30 := Fl30.binds (ps := ["self", "client"]) fun _ _ _ _ _ _ us hl => match us, hl with | [_, _], _ => rfl
  have el30 : Meth K CLp "leave" fl30 := ⟨Al30, Il30, Kl30⟩
  have bl31 := Fl31.binds (ps := ["self", "slot"]) fun _ _ _ _ _ _ us hl => match us, hl with | [_, _], _ => rfl
  have el31 : Meth K CLp "clients_in" fl31 := ⟨Al31, Il31, Kl31⟩
  have bl32 := Fl32.binds (ps := ["self", "slot"]) fun _ _ _ _ _ _ us hl => match us, hl with | [_, _], _ => rfl
  have el32 : Meth K CLp "lone_from" fl32 := ⟨Al32, Il32, Kl32⟩
  have bl33 := Fl33.binds (ps := ["self", "attempt"]) fun _ _ _ _ _ _ us hl => match us, hl with | [_, _], _ => rfl
  have el33 : Meth K CLp "begins" fl33 := ⟨Al33, Il33, Kl33⟩
  have bs34 := Fs34.binds (ps := ["self", "rule"]) fun _ _ _ _ _ _ us hl => match us, hl with | [_, _], _ => rfl
  have es34 : Meth K CG "__init__" fs34 := ⟨As34, Is34, Ks34⟩
  have bs35 := Fs35.binds (ps := ["self", "attempt"]) fun _ _ _ _ _ _ us hl => match us, hl with | [_, _], _ => rfl
  have es35 : Meth K CG "behind" fs35 := ⟨As35, Is35, Ks35⟩
  have ba36 := Fa36.binds (ps := ["_law_parts"]) fun _ _ _ _ _ _ us hl => match us, hl with | [_], _ => rfl
  have ga36 := PySem.W.mg_of X G Aa36
  have bs37 := Fs37.binds (ps := ["self"]) fun _ _ _ _ _ _ us hl => match us, hl with | [_], _ => rfl
  have es37 : Meth K CS "starts" fs37 := ⟨As37, Is37, Ks37⟩
  have bs38 := Fs38.binds (ps := ["self"]) fun _ _ _ _ _ _ us hl => match us, hl with | [_], _ => rfl
  have es38 : Meth K CS "outages" fs38 := ⟨As38, Is38, Ks38⟩
  have bs39 := Fs39.binds (ps := ["self"]) fun _ _ _ _ _ _ us hl => match us, hl with | [_], _ => rfl
  have es39 : Meth K CS "length" fs39 := ⟨As39, Is39, Ks39⟩
  have bs40 := Fs40.binds (ps := ["self"]) fun _ _ _ _ _ _ us hl => match us, hl with | [_], _ => rfl
  have es40 : Meth K CS "rule" fs40 := ⟨As40, Is40, Ks40⟩
  have bc41 := Fc41.binds (ps := ["self", "scene"]) fun _ _ _ _ _ _ us hl => match us, hl with | [_, _], _ => rfl
  have ec41 : Meth K CC "__init__" fc41 := ⟨Ac41, Ic41, Kc41⟩
  have bc42 := Fc42.binds (ps := ["self"]) fun _ _ _ _ _ _ us hl => match us, hl with | [_], _ => rfl
  have ec42 : Meth K CC "_following" fc42 := ⟨Ac42, Ic42, Kc42⟩
  have ba43 := Fa43.binds (ps := ["slot"]) fun _ _ _ _ _ _ us hl => match us, hl with | [_], _ => rfl
  have ga43 := PySem.W.mg_of X G Aa43
  have bs44 := Fs44.binds (ps := ["self", "slot"]) fun _ _ _ _ _ _ us hl => match us, hl with | [_, _], _ => rfl
  have es44 : Meth K CS "outage_at" fs44 := ⟨As44, Is44, Ks44⟩
  have bc45 := Fc45.binds (ps := ["self", "slot", "clients"]) fun _ _ _ _ _ _ us hl => match us, hl with | [_, _, _], _ => rfl
  have ec45 : Meth K CC "_decide" fc45 := ⟨Ac45, Ic45, Kc45⟩
  have bc46 := Fc46.binds (ps := ["self", "slot"]) fun _ _ _ _ _ _ us hl => match us, hl with | [_, _], _ => rfl
  have ec46 : Meth K CC "_pass_slot" fc46 := ⟨Ac46, Ic46, Kc46⟩
  have bc47 := Fc47.binds (ps := ["self"]) fun _ _ _ _ _ _ us hl => match us, hl with | [_], _ => rfl
  have ec47 : Meth K CC "services" fc47 := ⟨Ac47, Ic47, Kc47⟩
  have ba48 := Fa48.binds (ps := ["scene"]) fun _ _ _ _ _ _ us hl => match us, hl with | [_], _ => rfl
  have ga48 := PySem.W.mg_of X G Aa48
  have ba49 := Fa49.binds (ps := ["offsets", "distance"]) fun _ _ _ _ _ _ us hl => match us, hl with | [_, _], _ => rfl
  have ga49 := PySem.W.mg_of X G Aa49
  have br50 := Fr50.binds (ps := ["self", "way"]) fun _ _ _ _ _ _ us hl => match us, hl with | [_, _], _ => rfl
  have er50 : Meth K C "_surely_short" fr50 := ⟨Ar50, Ir50, Kr50⟩
  have br51 := Fr51.binds (ps := ["self", "distance"]) fun _ _ _ _ _ _ us hl => match us, hl with | [_, _], _ => rfl
  have er51 : Meth K C "_first_growing" fr51 := ⟨Ar51, Ir51, Kr51⟩
  have br52 := Fr52.binds (ps := ["self", "distance"]) fun _ _ _ _ _ _ us hl => match us, hl with | [_, _], _ => rfl
  have er52 : Meth K C "_first_repeated" fr52 := ⟨Ar52, Ir52, Kr52⟩
  have br53 := Fr53.binds (ps := ["self", "distance"]) fun _ _ _ _ _ _ us hl => match us, hl with | [_, _], _ => rfl
  have er53 : Meth K C "first_from" fr53 := ⟨Ar53, Ir53, Kr53⟩
  have br54 := Fr54.binds (ps := ["self", "distance"]) fun _ _ _ _ _ _ us hl => match us, hl with | [_, _], _ => rfl
  have er54 : Meth K C "attempt_at" fr54 := ⟨Ar54, Ir54, Kr54⟩
  have ba55 := Fa55.binds (ps := ["client", "many"]) fun _ _ _ _ _ _ us hl => match us, hl with | [_, _], _ => rfl
  have ga55 := PySem.W.mg_of X G Aa55
  have bs56 := Fs56.binds (ps := ["self", "client", "slot"]) fun _ _ _ _ _ _ us hl => match us, hl with | [_, _, _], _ => rfl
  have es56 : Meth K CS "attempt_in" fs56 := ⟨As56, Is56, Ks56⟩
  have br57 := Fr57.binds (ps := ["self", "scene"]) fun _ _ _ _ _ _ us hl => match us, hl with | [_, _], _ => rfl
  have er57 : Meth K CR "__init__" fr57 := ⟨Ar57, Ir57, Kr57⟩
  have br58 := Fr58.binds (ps := ["self", "client"]) fun _ _ _ _ _ _ us hl => match us, hl with | [_, _], _ => rfl
  have er58 : Meth K CR "outcome" fr58 := ⟨Ar58, Ir58, Kr58⟩
  have br59 := Fr59.binds (ps := ["self"]) fun _ _ _ _ _ _ us hl => match us, hl with | [_], _ => rfl
  have er59 : Meth K CR "outcomes" fr59 := ⟨Ar59, Ir59, Kr59⟩
  have br60 := Fr60.binds (ps := ["self", "slot"]) fun _ _ _ _ _ _ us hl => match us, hl with | [_, _], _ => rfl
  have er60 : Meth K CR "active" fr60 := ⟨Ar60, Ir60, Kr60⟩
  have br61 := Fr61.binds (ps := ["self", "slot"]) fun _ _ _ _ _ _ us hl => match us, hl with | [_, _], _ => rfl
  have er61 : Meth K CR "attempting" fr61 := ⟨Ar61, Ir61, Kr61⟩
  have br62 := Fr62.binds (ps := ["self", "slot"]) fun _ _ _ _ _ _ us hl => match us, hl with | [_, _], _ => rfl
  have er62 : Meth K CR "_occupant" fr62 := ⟨Ar62, Ir62, Kr62⟩
  have br63 := Fr63.binds (ps := ["self", "slot"]) fun _ _ _ _ _ _ us hl => match us, hl with | [_, _], _ => rfl
  have er63 : Meth K CR "event" fr63 := ⟨Ar63, Ir63, Kr63⟩
  have ba64 := Fa64.binds (ps := ["_law_parts", "_law_client"]) fun _ _ _ _ _ _ us hl => match us, hl with | [_, _], _ => rfl
  have ga64 := PySem.W.mg_of X G Aa64
  have ba65 := Fa65.binds (ps := ["_law_steps", "_law_ending", "_law_distance"]) fun _ _ _ _ _ _ us hl => match us, hl with | [_, _, _], _ => rfl
  have ga65 := PySem.W.mg_of X G Aa65
  have ba66 := Fa66.binds (ps := ["_law_well_here"]) fun _ _ _ _ _ _ us hl => match us, hl with | [_], _ => rfl
  have ga66 := PySem.W.mg_of X G Aa66
  have ba67 := Fa67.binds (ps := ["_law_well_here"]) fun _ _ _ _ _ _ us hl => match us, hl with | [_], _ => rfl
  have ga67 := PySem.W.mg_of X G Aa67

  refine ⟨PySem.W.fnOf "law" "law" (defArgs s_law) (defBody s_law) (defScope s_law) .none kVa0 dca0 pma0 ana0 cda0 cta0, fun s v => .of_eq rfl, fun base _ _ => ?_⟩
  have G0 := ok_isInt (mg := mg) (P := l.prog) (w := w) (base := base) (C := C) Fa1 T
  have G6 := ok_sums (mg := mg) (P := l.prog) (w := w) (base := base) Fa4
  have G10 := ok_init (mg := mg) (P := l.prog) (w := w) (base := base) (C := C) Fr6 T Fa1 ba1 ga1 Fa2 ba2 ga2 Fa3 ba3 ga3 Fa4 ba4 ga4
  have G12 := ok_attempts (mg := mg) (P := l.prog) (w := w) (base := base) (C := C) Fr7 T
  have G14 := ok_frA (mg := mg) (P := l.prog) (w := w) (base := base) (C := C) Fr8 T
  have G16 := ok_fr (mg := mg) (P := l.prog) (w := w) (base := base) (C := C) Fr8 T
  have G18 := ok_per (mg := mg) (P := l.prog) (w := w) (base := base) (C := C) Fr9 T Fr8 br8 er8
  have G20 := ok_gaps (mg := mg) (P := l.prog) (w := w) (base := base) (C := C) Fr10 T
  have G22 := ok_tail (mg := mg) (P := l.prog) (w := w) (base := base) (C := C) Fr11 T
  have G26 := ok_off (mg := mg) (P := l.prog) (w := w) (base := base) (C := C) Fr13 T Fr8 br8 er8 Fr9 br9 er9 Fa5 ba5 ga5
  have G32 := ok_well (mg := mg) (P := l.prog) (w := w) (base := base) (C := C) Fa16 T
  have G34 := ok_mixed (mg := mg) (P := l.prog) (w := w) (base := base) (C := C) Fa17 T
  have G36 := ok_next (mg := mg) (P := l.prog) (w := w) (base := base) (C := C) Fa18 T G34 ba17 ga17 Ka17
  have G38 := ok_one (mg := mg) (P := l.prog) (w := w) (base := base) (C := C) Fa19 T G36 ba18 ga18 Ka18
  have G40 := ok_win (mg := mg) (P := l.prog) (w := w) (base := base) (C := C) Fa20 T G36 ba18 ga18 Ka18
  have G42 := ok_lo (mg := mg) (P := l.prog) (w := w) (base := base) (C := C) Fa21 T G6 ba4 ga4 Ka4 G20 br10 er10
  have G46 := ok_two (mg := mg) (P := l.prog) (w := w) (base := base) (C := C) Fa23 T G0 ba1 ga1 Ka1
  have G48 := ok_isO (mg := mg) (P := l.prog) (w := w) (base := base) (C := C) Fa24 T G46 ba23 ga23 Ka23
  have G50 := ok_chS (mg := mg) (P := l.prog) (w := w) (base := base) (C := C) Fa25 T ⟨tC, PySem.W.mg_of X G c_tC⟩ G0 ba1 ga1 Ka1
  have G52 := ok_chO (mg := mg) (P := l.prog) (w := w) (base := base) (C := C) (CS := CS) Fa26 T TS G48 ba24 ga24 Ka24
  have G54 := ok_sinit (mg := mg) (P := l.prog) (w := w) (base := base) (C := C) (CS := CS) Fs27 T TS IC G0 ba1 ga1 Ka1 G50 ba25 ga25 Ka25 G52 ba26 ga26 Ka26
  have G58 := ok_en (mg := mg) (P := l.prog) (w := w) (base := base) (C := C) (CLp := CLp) Fl29 T TP
  have G68 := ok_roX (mg := mg) (P := l.prog) (w := w) (base := base) (C := C) Fa22 T G42 ba21 ga21 Ka21 G16 G14 br8 er8
  have G70 := ok_lpX (mg := mg) (P := l.prog) (w := w) (base := base) (C := C) (CLp := CLp) Fl28 T TP G18 br9 er9 G14 br8 er8 G68 ba22 ga22 Ka22
  have G74 := ok_lvX (mg := mg) (P := l.prog) (w := w) (base := base) (C := C) (CLp := CLp) Fl30 T TP
  have G78 := ok_ciX (mg := mg) (P := l.prog) (w := w) (base := base) (C := C) (CLp := CLp) Fl31 T TP
  have G80 := ok_bg (mg := mg) (P := l.prog) (w := w) (base := base) (C := C) (CLp := CLp) Fl33 T TP
  have G84 := ok_lfX (mg := mg) (P := l.prog) (w := w) (base := base) (C := C) (CLp := CLp) Fl32 T TP (PySem.W.mg_none_of X G z_min)
  have G86 := ok_sg0 (mg := mg) (P := l.prog) (w := w) (base := base) (C := C) (CG := CG) Fs34 T TG G20 br10 er10 G14 br8 er8 G22 br11 er11
  have G88 := ok_be (mg := mg) (P := l.prog) (w := w) (base := base) (C := C) (CG := CG) Fs35 T TG
  have G90 := ok_made (mg := mg) (P := l.prog) (w := w) (base := base) (C := C) (CS := CS) Fa36 T TS M M_s G10 br6 G54 (kb_scene Fs27)
  have G92 := ok_sts (mg := mg) (P := l.prog) (w := w) (base := base) (C := C) (CS := CS) Fs37 T TS
  have G94 := ok_outs (mg := mg) (P := l.prog) (w := w) (base := base) (C := C) (CS := CS) Fs38 T TS
  have G96 := ok_lng (mg := mg) (P := l.prog) (w := w) (base := base) (C := C) (CS := CS) Fs39 T TS
  have G98 := ok_rul (mg := mg) (P := l.prog) (w := w) (base := base) (C := C) (CS := CS) Fs40 T TS M G10 br6 G20 br10 er10 G22 br11 er11
  have G100 := ok_co0 (mg := mg) (P := l.prog) (w := w) (base := base) (C := C) (CS := CS) (CLp := CLp) (CC := CC) (CG := CG) Fc41 T TS TC TG TP G92 bs37 es37 G98 bs40 es40 M_g G86 bs34 M_p G70 bl28
  have G102 := ok_fo (mg := mg) (P := l.prog) (w := w) (base := base) (C := C) (CS := CS) (CLp := CLp) (CC := CC) (CG := CG) Fc42 T TC TP G84 bl32 el32
  have G104 := ok_ckSA (mg := mg) (P := l.prog) (w := w) (base := base) (C := C) Fa43 T G0 ba1 ga1 Ka1
  have G106 := ok_outA (mg := mg) (P := l.prog) (w := w) (base := base) (C := C) (CS := CS) Fs44 T TS G104 ba43 ga43 Ka43
  have G108 := ok_de (mg := mg) (P := l.prog) (w := w) (base := base) (C := C) (CS := CS) (CLp := CLp) (CC := CC) (CG := CG) Fc45 T TS TC TP G106 bs44 es44 G94 bs38 es38 G96 bs39 es39 G74 bl30 el30
  have G110 := ok_ps (mg := mg) (P := l.prog) (w := w) (base := base) (C := C) (CS := CS) (CLp := CLp) (CC := CC) (CG := CG) Fc46 T TC TG TP G80 bl33 el33 G58 bl29 el29 G108 bc45 ec45 G78 bl31 el31 G88 bs35 es35
  have G112 := ok_sv (mg := mg) (P := l.prog) (w := w) (base := base) (C := C) (CS := CS) (CLp := CLp) (CC := CC) (CG := CG) Fc47 T TC G102 bc42 ec42 G110 bc46 ec46
  have G114 := ok_fs (mg := mg) (P := l.prog) (w := w) (base := base) (C := C) (CS := CS) (CLp := CLp) (CC := CC) (CG := CG) Fa48 T TC M_c G100 bc41 G112 bc47 ec47
  have G120 := ok_fg (mg := mg) (P := l.prog) (w := w) (base := base) (C := C) Fr51 T Fr50 br50 er50 G26 br13 er13 Fa5 ba5 ga5
  have G122 := ok_frp (mg := mg) (P := l.prog) (w := w) (base := base) (C := C) Fr52 T Fr8 br8 er8 Fr9 br9 er9 Fa49 ba49 ga49
  have G124 := ok_ff (mg := mg) (P := l.prog) (w := w) (base := base) (C := C) Fr53 T Fa1 ba1 ga1 Fa49 ba49 ga49 G120 br51 er51 G122 br52 er52
  have G126 := ok_aa (mg := mg) (P := l.prog) (w := w) (base := base) (C := C) Fr54 T G124 br53 er53 G26 br13 er13
  have G128 := ok_ckCA (mg := mg) (P := l.prog) (w := w) (base := base) (C := C) Fa55 T G0 ba1 ga1 Ka1
  have G130 := ok_ainA (mg := mg) (P := l.prog) (w := w) (base := base) (C := C) (CS := CS) Fs56 T TS G126 br54 er54 G128 ba55 ga55 Ka55 G104 ba43 ga43 Ka43
  have G132 := ok_rn0 (mg := mg) (P := l.prog) (w := w) (base := base) (C := C) (CS := CS) (CR := CR) Fr57 T TS TR IC_s G114 ba48 ga48 Ka48
  have G134 := ok_oc (mg := mg) (P := l.prog) (w := w) (base := base) (C := C) (CS := CS) (CR := CR) Fr58 T TS TR G128 ba55 ga55 Ka55 G92 bs37 es37 G130 bs56 es56 G98 bs40 es40 G12 br7 er7
  have G136 := ok_ocs (mg := mg) (P := l.prog) (w := w) (base := base) (C := C) (CS := CS) (CR := CR) Fr59 T TS TR G92 bs37 es37 G134 br58 er58
  have G138 := ok_act (mg := mg) (P := l.prog) (w := w) (base := base) (C := C) (CS := CS) (CR := CR) Fr60 T TS TR G104 ba43 ga43 Ka43 G92 bs37 es37 G98 bs40 es40 G12 br7 er7 G124 br53 er53
  have G140 := ok_atg (mg := mg) (P := l.prog) (w := w) (base := base) (C := C) (CS := CS) (CR := CR) Fr61 T TS TR G92 bs37 es37 G98 bs40 es40 G138 br60 er60 G126 br54 er54
  have G142 := ok_ocu (mg := mg) (P := l.prog) (w := w) (base := base) (C := C) (CS := CS) (CR := CR) Fr62 T TS TR G96 bs39 es39
  have G144 := ok_ev (mg := mg) (P := l.prog) (w := w) (base := base) (C := C) (CS := CS) (CR := CR) Fr63 T TS TR G140 br61 er61 G106 bs44 es44 G142 br62 er62
  have G146 := ok_res (mg := mg) (P := l.prog) (w := w) (base := base) (C := C) Fa64 T
  have G148 := ok_has (mg := mg) (P := l.prog) (w := w) (base := base) (C := C) Fa65 T
  have G150 := ok_long (mg := mg) (P := l.prog) (w := w) (base := base) (C := C) Fa66 T G36 ba18 ga18 Ka18 G38 ba19 ga19 Ka19 G40 ba20 ga20 Ka20
  have G152 := ok_rt33 (mg := mg) (P := l.prog) (w := w) (base := base) (C := C) (CS := CS) (CR := CR) Fa67 T TS TR G150 ba66 ga66 Ka66 G90 ba36 ga36 Ka36 M_r G132 br57 G136 br59 er59 G144 br63 er63 G138 br60 er60 G146 ba64 ga64 Ka64 G148 ba65 ga65 Ka65
  exact ok_law (P := l.prog) (w := w) (base := base) (C := C) Fa0 T G152 ba67 ga67 Ka67 G32 ba16 ga16 Ka16
/-- the end of the walk, with what the top left loose -/
theorem walk_x {l : PySem.W.OpenLaw} {q : Program} {loose : List Str} {XP : (Str → Option Value) → Heap → Prop} {YP : World → Heap → Prop} {d : DefRec} {K : Params → PySem.W.Frag} (hn : l.most = some 63) (hdf : d.params.defaults = [])
    (hY : ∀ (w : World) (h : Heap), YP w h → (K w.params).In h)
    (F : ∀ (w : World) (mg : Str → Option Value) (fa : Addr) (h : Heap), (K w.params).In h → h.Ns mainGlobals mg → mg d.name = some (.ref fa) → XP mg h →
      ∃ fd : FuncData, (∀ (s : Shared) (u : Value), BindsTo s fd ⟨[u], []⟩ [("_law_script", u)]) ∧ ∀ base : Heap, (K w.params).In base → base.Ns mainGlobals mg → FnOk l.prog w (K w.params) mg base CX0 12 fa fd ["_law_script"] (spLaw (K w.params))) :
    PySem.W.WalkO q loose XP YP l.row.toRowW d [] (fun f vs => PySem.call f vs) := by
  refine Att.attach_call hn hdf ?_
  intro w _ s1 mg _ fa _ _ _ _ a vs ns G Y _ _ _ hmg hobj hints hlen hg
  obtain ⟨fd, hb, hF⟩ := F w mg fa _ (hY w _ Y) G.T.g hmg G.X
  refine law_call (hY w _ Y) G.T.g G.T.b G.T.builtins G.T.nolimit hg hobj hints ?_ ?_ hF hb ?_ ?_
  · exact Nat.le_trans hlen (by decide)
  · exact ⟨rfl, by decide, by decide⟩
  · exact fun H _ hS => ⟨a, ns, rfl, hS, hlen, fun _ => rfl⟩
  · exact fun H e s' z => z
theorem long_of {p : Program} {mg : Str → Option Value} {h : Heap} (x : PySem.W.XL p [("_LONGEST_GAP", .int 1000000000000)] mg h) : ∃ t, mg "_LONGEST_GAP" = some (.int 1000000000000 t) := by
  obtain ⟨v, e, r⟩ := x.2.val _ (List.mem_singleton.mpr rfl)
  cases r
  exact ⟨_, e⟩
end RS
open PySem PySem.W PyProof.Rows
set_option maxRecDepth 100000 in
set_option maxHeartbeats 0 in
theorem PySem.Challenge.cw_retryslots_k33_whole_long_rules_that_rep_holds : PySem.Challenge.rw_retryslots_k33_whole_long_rules_that_rep.Holds := by
  w_on; o_law; k_head; (case hw => w_witness2)
  k_fill
  refine RS.walk_x (l := PySem.Challenge.rw_retryslots_k33_whole_long_rules_that_rep) rfl rfl (fun w h Y => PySem.W.kIn_of Y) ?F
  case F =>
    intro w mg fa h KX G hmg XX
    refine' RS.all_mk KX G hmg (RS.long_of XX) ?Aa0 ?La0 ?Ca0 ?Ka0 ?Aa1 ?La1 ?Ca1 ?Ka1 ?Aa2 ?La2 ?Ca2 ?Ka2 ?Aa3 ?La3 ?Ca3 ?Ka3 ?Aa4 ?La4 ?Ca4 ?Ka4 ?Aa5 ?La5 ?Ca5 ?Ka5 ?Ar6 ?Ir6 ?Lr6 ?Cr6 ?Kr6 ?Ar7 ?Ir7 ?Lr7 ?Cr7 ?Kr7 ?Ar8 ?Ir8 ?Lr8 ?Cr8 ?Kr8 ?Ar9 ?Ir9 ?Lr9 ?Cr9 ?Kr9 ?Ar10 ?Ir10 ?Lr10 ?Cr10 ?Kr10 ?Ar11 ?Ir11 ?Lr11 ?Cr11 ?Kr11 ?Ar13 ?Ir13 ?Lr13 ?Cr13 ?Kr13 ?Aa16 ?La16 ?Ca16 ?Ka16 ?Aa17 ?La17 ?Ca17 ?Ka17 ?Aa18 ?La18 ?Ca18 ?Ka18 ?Aa19 ?La19 ?Ca19 ?Ka19 ?Aa20 ?La20 ?Ca20 ?Ka20 ?Aa21 ?La21 ?Ca21 ?Ka21 ?Aa22 ?La22 ?Ca22 ?Ka22 ?Aa23 ?La23 ?Ca23 ?Ka23 ?Aa24 ?La24 ?Ca24 ?Ka24 ?Aa25 ?La25 ?Ca25 ?Ka25 ?Aa26 ?La26 ?Ca26 ?Ka26 ?As27 ?Is27 ?Ls27 ?Cs27 ?Ks27 ?Al28 ?Il28 ?Ll28 ?Cl28 ?Kl28 ?Al29 ?Il29 ?Ll29 ?Cl29 ?Kl29 ?Al30 ?Il30 ?Ll30 ?Cl30 ?Kl30 ?Al31 ?Il31 ?Ll31 ?Cl31 ?Kl31 ?Al32 ?Il32 ?Ll32 ?Cl32 ?Kl32 ?Al33 ?Il33 ?Ll33 ?Cl33 ?Kl33 ?As34 ?Is34 ?Ls34 ?Cs34 ?Ks34 ?As35 ?Is35 ?Ls35 ?Cs35 ?Ks35 ?Aa36 ?La36 ?Ca36 ?Ka36 ?As37 ?Is37 ?Ls37 ?Cs37 ?Ks37 ?As38 ?Is38 ?Ls38 ?Cs38 ?Ks38 ?As39 ?Is39 ?Ls39 ?Cs39 ?Ks39 ?As40 ?Is40 ?Ls40 ?Cs40 ?Ks40 ?Ac41 ?Ic41 ?Lc41 ?Cc41 ?Kc41 ?Ac42 ?Ic42 ?Lc42 ?Cc42 ?Kc42 ?Aa43 ?La43 ?Ca43 ?Ka43 ?As44 ?Is44 ?Ls44 ?Cs44 ?Ks44 ?Ac45 ?Ic45 ?Lc45 ?Cc45 ?Kc45 ?Ac46 ?Ic46 ?Lc46 ?Cc46 ?Kc46 ?Ac47 ?Ic47 ?Lc47 ?Cc47 ?Kc47 ?Aa48 ?La48 ?Ca48 ?Ka48 ?Aa49 ?La49 ?Ca49 ?Ka49 ?Ar50 ?Ir50 ?Lr50 ?Cr50 ?Kr50 ?Ar51 ?Ir51 ?Lr51 ?Cr51 ?Kr51 ?Ar52 ?Ir52 ?Lr52 ?Cr52 ?Kr52 ?Ar53 ?Ir53 ?Lr53 ?Cr53 ?Kr53 ?Ar54 ?Ir54 ?Lr54 ?Cr54 ?Kr54 ?Aa55 ?La55 ?Ca55 ?Ka55 ?As56 ?Is56 ?Ls56 ?Cs56 ?Ks56 ?Ar57 ?Ir57 ?Lr57 ?Cr57 ?Kr57 ?Ar58 ?Ir58 ?Lr58 ?Cr58 ?Kr58 ?Ar59 ?Ir59 ?Lr59 ?Cr59 ?Kr59 ?Ar60 ?Ir60 ?Lr60 ?Cr60 ?Kr60 ?Ar61 ?Ir61 ?Lr61 ?Cr61 ?Kr61 ?Ar62 ?Ir62 ?Lr62 ?Cr62 ?Kr62 ?Ar63 ?Ir63 ?Lr63 ?Cr63 ?Kr63 ?Aa64 ?La64 ?Ca64 ?Ka64 ?Aa65 ?La65 ?Ca65 ?Ka65 ?Aa66 ?La66 ?Ca66 ?Ka66 ?Aa67 ?La67 ?Ca67 ?Ka67 ?aC ?pg ?hd ?po ?sa ?mk ?kc ?n0 ?n1 ?n2 ?iha ?ihm ?aC_s ?pg_s ?hd_s ?po_s ?sa_s ?mk_s ?kc_s ?n0_s ?n1_s ?n2_s ?n3_s ?iha_s ?ihm_s ?aC_r ?pg_r ?hd_r ?po_r ?sa_r ?mk_r ?kc_r ?n0_r ?n1_r ?n2_r ?aC_p ?pg_p ?hd_p ?po_p ?sa_p ?mk_p ?kc_p ?n0_p ?n1_p ?n2_p ?n3_p ?n4_p ?n5_p ?aC_c ?pg_c ?hd_c ?po_c ?sa_c ?mk_c ?kc_c ?n0_c ?n1_c ?n2_c ?n3_c ?n4_c ?n5_c ?n6_c ?n7_c ?aC_g ?pg_g ?hd_g ?po_g ?sa_g ?mk_g ?kc_g ?n0_g ?n1_g ?ihn ?iht ?z_len ?z_isinstance ?z_int ?z_bool ?z_list ?z_tuple ?z_str ?z_all ?z_range ?z_divmod ?z_sum ?z_max ?z_min ?z_sorted ?z_set ?z_any ?z_enumerate ?zpush ?zpop ?c_tM ?c_tF ?c_tL ?c_tC ?c_tO
    (case aC => k_is)
    (case aC_s => k_is)
    (case aC_r => k_is)
    (case aC_p => k_is)
    (case aC_c => k_is)
    (case aC_g => k_is)
    (case Aa0 => k_is)
    (case La0 => k_is)
    (case Ca0 => k_is)
    (case Ka0 => k_is)
    (case Aa1 => k_is)
    (case La1 => k_is)
    (case Ca1 => k_is)
    (case Ka1 => k_is)
    (case Aa2 => k_is)
    (case La2 => k_is)
    (case Ca2 => k_is)
    (case Ka2 => k_is)
    (case Aa3 => k_is)
    (case La3 => k_is)
    (case Ca3 => k_is)
    (case Ka3 => k_is)
    (case Aa4 => k_is)
    (case La4 => k_is)
    (case Ca4 => k_is)
    (case Ka4 => k_is)
    (case Aa5 => k_is)
    (case La5 => k_is)
    (case Ca5 => k_is)
    (case Ka5 => k_is)
    (case Ar6 => k_is)
    (case Ir6 => k_is)
    (case Lr6 => k_is)
    (case Cr6 => k_is)
    (case Kr6 => k_is)
    (case Ar7 => k_is)
    (case Ir7 => k_is)
    (case Lr7 => k_is)
    (case Cr7 => k_is)
    (case Kr7 => k_is)
    (case Ar8 => k_is)
    (case Ir8 => k_is)
    (case Lr8 => k_is)
    (case Cr8 => k_is)
    (case Kr8 => k_is)
    (case Ar9 => k_is)
    (case Ir9 => k_is)
    (case Lr9 => k_is)
    (case Cr9 => k_is)
    (case Kr9 => k_is)
    (case Ar10 => k_is)
    (case Ir10 => k_is)
    (case Lr10 => k_is)
    (case Cr10 => k_is)
    (case Kr10 => k_is)
    (case Ar11 => k_is)
    (case Ir11 => k_is)
    (case Lr11 => k_is)
    (case Cr11 => k_is)
    (case Kr11 => k_is)
    (case Ar13 => k_is)
    (case Ir13 => k_is)
    (case Lr13 => k_is)
    (case Cr13 => k_is)
    (case Kr13 => k_is)
    (case Aa16 => k_is)
    (case La16 => k_is)
    (case Ca16 => k_is)
    (case Ka16 => k_is)
    (case Aa17 => k_is)
    (case La17 => k_is)
    (case Ca17 => k_is)
    (case Ka17 => k_is)
    (case Aa18 => k_is)
    (case La18 => k_is)
    (case Ca18 => k_is)
    (case Ka18 => k_is)
    (case Aa19 => k_is)
    (case La19 => k_is)
    (case Ca19 => k_is)
    (case Ka19 => k_is)
    (case Aa20 => k_is)
    (case La20 => k_is)
    (case Ca20 => k_is)
    (case Ka20 => k_is)
    (case Aa21 => k_is)
    (case La21 => k_is)
    (case Ca21 => k_is)
    (case Ka21 => k_is)
    (case Aa22 => k_is)
    (case La22 => k_is)
    (case Ca22 => k_is)
    (case Ka22 => k_is)
    (case Aa23 => k_is)
    (case La23 => k_is)
    (case Ca23 => k_is)
    (case Ka23 => k_is)
    (case Aa24 => k_is)
    (case La24 => k_is)
    (case Ca24 => k_is)
    (case Ka24 => k_is)
    (case Aa25 => k_is)
    (case La25 => k_is)
    (case Ca25 => k_is)
    (case Ka25 => k_is)
    (case Aa26 => k_is)
    (case La26 => k_is)
    (case Ca26 => k_is)
    (case Ka26 => k_is)
    (case As27 => k_is)
    (case Is27 => k_is)
    (case Ls27 => k_is)
    (case Cs27 => k_is)
    (case Ks27 => k_is)
    (case Al28 => k_is)
    (case Il28 => k_is)
    (case Ll28 => k_is)
    (case Cl28 => k_is)
    (case Kl28 => k_is)
    (case Al29 => k_is)
    (case Il29 => k_is)
    (case Ll29 => k_is)
    (case Cl29 => k_is)
    (case Kl29 => k_is)
    (case Al30 => k_is)
    (case Il30 => k_is)
    (case Ll30 => k_is)
    (case Cl30 => k_is)
    (case Kl30 => k_is)
    (case Al31 => k_is)
    (case Il31 => k_is)
    (case Ll31 => k_is)
    (case Cl31 => k_is)
    (case Kl31 => k_is)
    (case Al32 => k_is)
    (case Il32 => k_is)
    (case Ll32 => k_is)
    (case Cl32 => k_is)
    (case Kl32 => k_is)
    (case Al33 => k_is)
    (case Il33 => k_is)
    (case Ll33 => k_is)
    (case Cl33 => k_is)
    (case Kl33 => k_is)
    (case As34 => k_is)
    (case Is34 => k_is)
    (case Ls34 => k_is)
    (case Cs34 => k_is)
    (case Ks34 => k_is)
    (case As35 => k_is)
    (case Is35 => k_is)
    (case Ls35 => k_is)
    (case Cs35 => k_is)
    (case Ks35 => k_is)
    (case Aa36 => k_is)
    (case La36 => k_is)
    (case Ca36 => k_is)
    (case Ka36 => k_is)
    (case As37 => k_is)
    (case Is37 => k_is)
    (case Ls37 => k_is)
    (case Cs37 => k_is)
    (case Ks37 => k_is)
    (case As38 => k_is)
    (case Is38 => k_is)
    (case Ls38 => k_is)
    (case Cs38 => k_is)
    (case Ks38 => k_is)
    (case As39 => k_is)
    (case Is39 => k_is)
    (case Ls39 => k_is)
    (case Cs39 => k_is)
    (case Ks39 => k_is)
    (case As40 => k_is)
    (case Is40 => k_is)
    (case Ls40 => k_is)
    (case Cs40 => k_is)
    (case Ks40 => k_is)
    (case Ac41 => k_is)
    (case Ic41 => k_is)
    (case Lc41 => k_is)
    (case Cc41 => k_is)
    (case Kc41 => k_is)
    (case Ac42 => k_is)
    (case Ic42 => k_is)
    (case Lc42 => k_is)
    (case Cc42 => k_is)
    (case Kc42 => k_is)
    (case Aa43 => k_is)
    (case La43 => k_is)
    (case Ca43 => k_is)
    (case Ka43 => k_is)
    (case As44 => k_is)
    (case Is44 => k_is)
    (case Ls44 => k_is)
    (case Cs44 => k_is)
    (case Ks44 => k_is)
    (case Ac45 => k_is)
    (case Ic45 => k_is)
    (case Lc45 => k_is)
    (case Cc45 => k_is)
    (case Kc45 => k_is)
    (case Ac46 => k_is)
    (case Ic46 => k_is)
    (case Lc46 => k_is)
    (case Cc46 => k_is)
    (case Kc46 => k_is)
    (case Ac47 => k_is)
    (case Ic47 => k_is)
    (case Lc47 => k_is)
    (case Cc47 => k_is)
    (case Kc47 => k_is)
    (case Aa48 => k_is)
    (case La48 => k_is)
    (case Ca48 => k_is)
    (case Ka48 => k_is)
    (case Aa49 => k_is)
    (case La49 => k_is)
    (case Ca49 => k_is)
    (case Ka49 => k_is)
    (case Ar50 => k_is)
    (case Ir50 => k_is)
    (case Lr50 => k_is)
    (case Cr50 => k_is)
    (case Kr50 => k_is)
    (case Ar51 => k_is)
    (case Ir51 => k_is)
    (case Lr51 => k_is)
    (case Cr51 => k_is)
    (case Kr51 => k_is)
    (case Ar52 => k_is)
    (case Ir52 => k_is)
    (case Lr52 => k_is)
    (case Cr52 => k_is)
    (case Kr52 => k_is)
    (case Ar53 => k_is)
    (case Ir53 => k_is)
    (case Lr53 => k_is)
    (case Cr53 => k_is)
    (case Kr53 => k_is)
    (case Ar54 => k_is)
    (case Ir54 => k_is)
    (case Lr54 => k_is)
    (case Cr54 => k_is)
    (case Kr54 => k_is)
    (case Aa55 => k_is)
    (case La55 => k_is)
    (case Ca55 => k_is)
    (case Ka55 => k_is)
    (case As56 => k_is)
    (case Is56 => k_is)
    (case Ls56 => k_is)
    (case Cs56 => k_is)
    (case Ks56 => k_is)
    (case Ar57 => k_is)
    (case Ir57 => k_is)
    (case Lr57 => k_is)
    (case Cr57 => k_is)
    (case Kr57 => k_is)
    (case Ar58 => k_is)
    (case Ir58 => k_is)
    (case Lr58 => k_is)
    (case Cr58 => k_is)
    (case Kr58 => k_is)
    (case Ar59 => k_is)
    (case Ir59 => k_is)
    (case Lr59 => k_is)
    (case Cr59 => k_is)
    (case Kr59 => k_is)
    (case Ar60 => k_is)
    (case Ir60 => k_is)
    (case Lr60 => k_is)
    (case Cr60 => k_is)
    (case Kr60 => k_is)
    (case Ar61 => k_is)
    (case Ir61 => k_is)
    (case Lr61 => k_is)
    (case Cr61 => k_is)
    (case Kr61 => k_is)
    (case Ar62 => k_is)
    (case Ir62 => k_is)
    (case Lr62 => k_is)
    (case Cr62 => k_is)
    (case Kr62 => k_is)
    (case Ar63 => k_is)
    (case Ir63 => k_is)
    (case Lr63 => k_is)
    (case Cr63 => k_is)
    (case Kr63 => k_is)
    (case Aa64 => k_is)
    (case La64 => k_is)
    (case Ca64 => k_is)
    (case Ka64 => k_is)
    (case Aa65 => k_is)
    (case La65 => k_is)
    (case Ca65 => k_is)
    (case Ka65 => k_is)
    (case Aa66 => k_is)
    (case La66 => k_is)
    (case Ca66 => k_is)
    (case Ka66 => k_is)
    (case Aa67 => k_is)
    (case La67 => k_is)
    (case Ca67 => k_is)
    (case Ka67 => k_is)
    (case pg => k_is)
    (case hd => k_is)
    (case po => k_is)
    (case sa => k_is)
    (case mk => k_is)
    (case kc => k_is)
    (case n0 => k_is)
    (case n1 => k_is)
    (case n2 => k_is)
    (case iha => k_is)
    (case ihm => k_is)
    (case pg_s => k_is)
    (case hd_s => k_is)
    (case po_s => k_is)
    (case sa_s => k_is)
    (case mk_s => k_is)
    (case kc_s => k_is)
    (case n0_s => k_is)
    (case n1_s => k_is)
    (case n2_s => k_is)
    (case n3_s => k_is)
    (case iha_s => k_is)
    (case ihm_s => k_is)
    (case pg_r => k_is)
    (case hd_r => k_is)
    (case po_r => k_is)
    (case sa_r => k_is)
    (case mk_r => k_is)
    (case kc_r => k_is)
    (case n0_r => k_is)
    (case n1_r => k_is)
    (case n2_r => k_is)
    (case pg_p => k_is)
    (case hd_p => k_is)
    (case po_p => k_is)
    (case sa_p => k_is)
    (case mk_p => k_is)
    (case kc_p => k_is)
    (case n0_p => k_is)
    (case n1_p => k_is)
    (case n2_p => k_is)
    (case n3_p => k_is)
    (case n4_p => k_is)
    (case n5_p => k_is)
    (case pg_c => k_is)
    (case hd_c => k_is)
    (case po_c => k_is)
    (case sa_c => k_is)
    (case mk_c => k_is)
    (case kc_c => k_is)
    (case n0_c => k_is)
    (case n1_c => k_is)
    (case n2_c => k_is)
    (case n3_c => k_is)
    (case n4_c => k_is)
    (case n5_c => k_is)
    (case n6_c => k_is)
    (case n7_c => k_is)
    (case pg_g => k_is)
    (case hd_g => k_is)
    (case po_g => k_is)
    (case sa_g => k_is)
    (case mk_g => k_is)
    (case kc_g => k_is)
    (case n0_g => k_is)
    (case n1_g => k_is)
    (case ihn => k_is)
    (case iht => k_is)
    (case z_len => k_is)
    (case z_isinstance => k_is)
    (case z_int => k_is)
    (case z_bool => k_is)
    (case z_list => k_is)
    (case z_tuple => k_is)
    (case z_str => k_is)
    (case z_all => k_is)
    (case z_range => k_is)
    (case z_divmod => k_is)
    (case z_sum => k_is)
    (case z_max => k_is)
    (case z_min => k_is)
    (case z_sorted => k_is)
    (case z_set => k_is)
    (case z_any => k_is)
    (case z_enumerate => k_is)
    (case zpush => k_is)
    (case zpop => k_is)
    (case c_tM => k_is)
    (case c_tF => k_is)
    (case c_tL => k_is)
    (case c_tC => k_is)
    (case c_tO => k_is)
